/- One sequence of all nodes: what joins and cuts make of it. No program. -/
import Derived.Test.YtijgilkpmkgbjaaLaw
namespace Go.Proofs.Ytijgilkpmkgbjaa
open Go.ChangeShapes Go.WideShapes Go.ChangeAt Go.RowKit
set_option linter.unusedVariables false

/-- All nodes stand in one sequence xs. -/
structure One (n : Nat) (S : Nat → List Nat) (xs : List Nat) : Prop where
  nodup : xs.Nodup
  mem : ∀ h, h ∈ xs ↔ 1 ≤ h ∧ h ≤ n
  seq : ∀ h ∈ xs, S h = xs
  len : xs.length = n
theorem One.live {n : Nat} {S : Nat → List Nat} {xs : List Nat} (H : One n S xs) {h : Nat} (hh : h ∈ xs) : Live n [] h := ⟨((H.mem h).1 hh).1, ((H.mem h).1 hh).2, by simp⟩
theorem One.empty (S : Nat → List Nat) : One 0 S [] := ⟨by simp, fun h => by simp; omega, by simp, rfl⟩
theorem One.first {S : Nat → List Nat} : One 1 (upd S 1 [1]) [1] := ⟨by simp, fun h => by simp; omega, fun h hh => by simp at hh; subst hh; exact upd_same .., rfl⟩
theorem One.new_not {n : Nat} {S : Nat → List Nat} {xs : List Nat} (H : One n S xs) : n + 1 ∉ xs := fun h => by have := (H.mem _).1 h; omega
theorem One.made {n : Nat} {S : Nat → List Nat} {xs : List Nat} (H : One n S xs) {a : Nat} (ha : a ∈ xs) : upd S (n + 1) [n + 1] a = xs := by
  have e : a ≠ n + 1 := fun e => H.new_not (e ▸ ha)
  rw [upd_other _ _ e]; exact H.seq a ha
theorem One.ne {n : Nat} {S : Nat → List Nat} {xs : List Nat} (H : One n S xs) : xs ≠ [n + 1] := fun e => H.new_not (by rw [e]; simp)
theorem One.front {n : Nat} {S : Nat → List Nat} {xs : List Nat} (H : One n S xs) {a : Nat} (ha : a ∈ xs) : One (n + 1) (joinS (upd S (n + 1) [n + 1]) (n + 1) a) ((n + 1) :: xs) := by
  have hn := H.new_not
  refine ⟨List.nodup_cons.2 ⟨hn, H.nodup⟩, fun h => ?_, fun h hh => ?_, by simp [H.len]⟩
  · rw [List.mem_cons, H.mem]; omega
  · unfold joinS
    rw [upd_same, H.made ha, if_pos]
    · rfl
    · rcases List.mem_cons.1 hh with h1 | h1
      · left; simp [h1]
      · exact .inr h1
theorem One.back {n : Nat} {S : Nat → List Nat} {xs : List Nat} (H : One n S xs) {a : Nat} (ha : a ∈ xs) : One (n + 1) (joinS (upd S (n + 1) [n + 1]) a (n + 1)) (xs ++ [n + 1]) := by
  have hn := H.new_not
  refine ⟨List.nodup_append.2 ⟨H.nodup, by simp, fun x hx y hy e => ?_⟩, fun h => ?_, fun h hh => ?_, by simp [H.len]⟩
  · simp at hy; rw [e, hy] at hx; exact hn hx
  · rw [List.mem_append, H.mem]; simp; omega
  · unfold joinS
    rw [upd_same, H.made ha, if_pos]
    rcases List.mem_append.1 hh with h1 | h1
    · exact .inl h1
    · exact .inr h1
/-- Cut at a place. -/
theorem One.cutL {n : Nat} {S : Nat → List Nat} {xs A B : List Nat} {a : Nat} (H : One n S xs) (e : xs = A ++ a :: B) {h : Nat} (hh : h ∈ A) : splitS S A a B h = A := by unfold splitS; rw [if_pos hh]
theorem One.cutR {n : Nat} {S : Nat → List Nat} {xs A B : List Nat} {a : Nat} (H : One n S xs) (e : xs = A ++ a :: B) {h : Nat} (hh : h ∈ a :: B) : splitS S A a B h = a :: B := by
  have hno := H.nodup
  rw [e] at hno
  unfold splitS
  rw [if_neg (fun x => (List.nodup_append.1 hno).2.2 h x h hh rfl), if_pos hh]
theorem One.cut0 {n : Nat} {S : Nat → List Nat} {xs B : List Nat} {a : Nat} (H : One n S xs) (e : xs = a :: B) : One n (splitS S [] a B) xs := by
  refine ⟨H.nodup, H.mem, fun h hh => ?_, H.len⟩
  rw [e] at hh ⊢
  unfold splitS
  rw [if_neg (by simp), if_pos hh]
/-- Two pieces, joined the other way round. -/
theorem One.turned {n : Nat} {S : Nat → List Nat} {xs A B : List Nat} {a x y : Nat} (H : One n S xs) (e : xs = A ++ a :: B) (hx : x ∈ a :: B) (hy : y ∈ A) : One n (joinS (splitS S A a B) x y) ((a :: B) ++ A) := by
  have hno := H.nodup
  rw [e] at hno
  have hp := List.nodup_append.1 hno
  refine ⟨List.nodup_append.2 ⟨hp.2.1, hp.1, fun u hu v hv e => hp.2.2 v hv u hu e.symm⟩, fun h => ?_, fun h hh => ?_, ?_⟩
  · rw [← H.mem, e, List.mem_append, List.mem_append]; exact Or.comm
  · unfold joinS
    rw [H.cutR e hx, H.cutL e hy, if_pos]
    rcases List.mem_append.1 hh with h1 | h1
    · exact .inl h1
    · exact .inr h1
  · rw [← H.len, e]; simp; omega
/-- Two pieces, joined as they were. -/
theorem One.again {n : Nat} {S : Nat → List Nat} {xs A B : List Nat} {a x y : Nat} (H : One n S xs) (e : xs = A ++ a :: B) (hx : x ∈ A) (hy : y ∈ a :: B) : One n (joinS (splitS S A a B) x y) xs := by
  refine ⟨H.nodup, H.mem, fun h hh => ?_, H.len⟩
  unfold joinS
  rw [H.cutL e hx, H.cutR e hy, ← e, if_pos]
  rw [e] at hh
  exact List.mem_append.1 hh

/-- An argument that is a slice of numbers, under the label nought. -/
def Arg0 (w : World) (o : Nat → Nat) (ao : Option Addr) (len : Nat) (z : Nat → Int) : Prop :=
  ∀ j, j < len → ∃ b off, ao = some ⟨b, off, none⟩ ∧ b < w.heap.size ∧ o b = 0 ∧ w.cell? ⟨b, off + j, none⟩ = some (.int .i64 (z j)) ∧ -9223372036854775808 ≤ z j ∧ z j ≤ 9223372036854775807
theorem Step.cell {I : Nat → Prop} {w w' : World} {o o' : Nat → Nat} (s : Step I w o w' o') {g : Nat} (hg : g < w.heap.size) (hi : ¬ I (o g)) (j : Nat) : w'.cell? ⟨g, j, none⟩ = w.cell? ⟨g, j, none⟩ := by
  unfold World.cell?
  show (match w'.heap[g]? with | _ => _) = (match w.heap[g]? with | _ => _)
  rw [s.block g hg hi]
theorem Arg0.step {I : Nat → Prop} {w w' : World} {o o' : Nat → Nat} {ao : Option Addr} {len : Nat} {z : Nat → Int} (h : Arg0 w o ao len z) (s : Step I w o w' o') (hi : ¬ I 0) : Arg0 w' o' ao len z := by
  intro j hj
  obtain ⟨b, off, h1, h2, h3, h4, h5⟩ := h j hj
  exact ⟨b, off, h1, Nat.lt_of_lt_of_le h2 s.size, (s.lab b h2).trans h3, (s.cell h2 (by rw [h3]; exact hi) _).trans h4, h5⟩
theorem Arg.at0 {w : World} {ao : Option Addr} {len : Nat} {z : Nat → Int} (h : Arg w ao len z) : Arg0 w o0 ao len z := by
  intro j hj
  obtain ⟨b, off, h1, h2, h4, h5⟩ := h j hj
  exact ⟨b, off, h1, h2, rfl, h4, h5⟩

end Go.Proofs.Ytijgilkpmkgbjaa
