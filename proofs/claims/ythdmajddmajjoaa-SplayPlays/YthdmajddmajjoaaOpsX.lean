/- A script that came in: what its cells hold. -/
import Derived.Test.YthdmajddmajjoaaLaw
import Derived.Test.YthdmajddmajjoaaItsArg
import Derived.Test.YthdmajddmajjoaaSideX
import Derived.Deep.Slices
namespace Go.Proofs.Ythdmajddmajjoaa
open Go.ChangeShapes Go.WideShapes Go.ChangeAt Go.RowKit
set_option linter.unusedVariables false

/-- All nodes stand in one sequence xs. -/
structure One (n : Nat) (S : Nat → List Nat) (xs : List Nat) : Prop where
  nodup : xs.Nodup
  mem : ∀ h, h ∈ xs ↔ 1 ≤ h ∧ h ≤ n
  seq : ∀ h ∈ xs, S h = xs
  len : xs.length = n
theorem One.live {n : Nat} {S : Nat → List Nat} {xs : List Nat} (H : One n S xs) {h : Nat} (hh : h ∈ xs) : Live n [] h := ⟨((H.mem h).1 hh).1, ((H.mem h).1 hh).2, by simp⟩
theorem One.empty (S : Nat → List Nat) : One 0 S [] := ⟨by simp, fun h => by simp; omega, by simp, rfl⟩
theorem One.first {S : Nat → List Nat} : One 1 (upd S 1 [1]) [1] := ⟨by simp, fun h => by simp; omega, fun h hh => by simp at hh; subst hh; exact upd_same .., rfl⟩
theorem One.new_not {n : Nat} {S : Nat → List Nat} {xs : List Nat} (H : One n S xs) : n + 1 ∉ xs := fun h => by have := (H.mem _).1 h; omega
theorem One.made {n : Nat} {S : Nat → List Nat} {xs : List Nat} (H : One n S xs) {a : Nat} (ha : a ∈ xs) : upd S (n + 1) [n + 1] a = xs := by
  have e : a ≠ n + 1 := fun e => H.new_not (e ▸ ha)
  rw [upd_other _ _ e]; exact H.seq a ha
theorem One.ne {n : Nat} {S : Nat → List Nat} {xs : List Nat} (H : One n S xs) : xs ≠ [n + 1] := fun e => H.new_not (by rw [e]; simp)
theorem One.front {n : Nat} {S : Nat → List Nat} {xs : List Nat} (H : One n S xs) {a : Nat} (ha : a ∈ xs) : One (n + 1) (joinS (upd S (n + 1) [n + 1]) (n + 1) a) ((n + 1) :: xs) := by
  have hn := H.new_not
  refine ⟨List.nodup_cons.2 ⟨hn, H.nodup⟩, fun h => ?_, fun h hh => ?_, by simp [H.len]⟩
  · rw [List.mem_cons, H.mem]; omega
  · unfold joinS
    rw [upd_same, H.made ha, if_pos]
    · rfl
    · rcases List.mem_cons.1 hh with h1 | h1
      · left; simp [h1]
      · exact .inr h1
theorem One.back {n : Nat} {S : Nat → List Nat} {xs : List Nat} (H : One n S xs) {a : Nat} (ha : a ∈ xs) : One (n + 1) (joinS (upd S (n + 1) [n + 1]) a (n + 1)) (xs ++ [n + 1]) := by
  have hn := H.new_not
  refine ⟨List.nodup_append.2 ⟨H.nodup, by simp, fun x hx y hy e => ?_⟩, fun h => ?_, fun h hh => ?_, by simp [H.len]⟩
  · simp at hy; rw [e, hy] at hx; exact hn hx
  · rw [List.mem_append, H.mem]; simp; omega
  · unfold joinS
    rw [upd_same, H.made ha, if_pos]
    rcases List.mem_append.1 hh with h1 | h1
    · exact .inl h1
    · exact .inr h1
/-- Cut at a place. -/
theorem One.cutL {n : Nat} {S : Nat → List Nat} {xs A B : List Nat} {a : Nat} (H : One n S xs) (e : xs = A ++ a :: B) {h : Nat} (hh : h ∈ A) : splitS S A a B h = A := by unfold splitS; rw [if_pos hh]
theorem One.cutR {n : Nat} {S : Nat → List Nat} {xs A B : List Nat} {a : Nat} (H : One n S xs) (e : xs = A ++ a :: B) {h : Nat} (hh : h ∈ a :: B) : splitS S A a B h = a :: B := by
  have hno := H.nodup
  rw [e] at hno
  unfold splitS
  rw [if_neg (fun x => (List.nodup_append.1 hno).2.2 h x h hh rfl), if_pos hh]
theorem One.cut0 {n : Nat} {S : Nat → List Nat} {xs B : List Nat} {a : Nat} (H : One n S xs) (e : xs = a :: B) : One n (splitS S [] a B) xs := by
  refine ⟨H.nodup, H.mem, fun h hh => ?_, H.len⟩
  rw [e] at hh ⊢
  unfold splitS
  rw [if_neg (by simp), if_pos hh]
/-- Two pieces, joined the other way round. -/
theorem One.turned {n : Nat} {S : Nat → List Nat} {xs A B : List Nat} {a x y : Nat} (H : One n S xs) (e : xs = A ++ a :: B) (hx : x ∈ a :: B) (hy : y ∈ A) : One n (joinS (splitS S A a B) x y) ((a :: B) ++ A) := by
  have hno := H.nodup
  rw [e] at hno
  have hp := List.nodup_append.1 hno
  refine ⟨List.nodup_append.2 ⟨hp.2.1, hp.1, fun u hu v hv e => hp.2.2 v hv u hu e.symm⟩, fun h => ?_, fun h hh => ?_, ?_⟩
  · rw [← H.mem, e, List.mem_append, List.mem_append]; exact Or.comm
  · unfold joinS
    rw [H.cutR e hx, H.cutL e hy, if_pos]
    rcases List.mem_append.1 hh with h1 | h1
    · exact .inl h1
    · exact .inr h1
  · rw [← H.len, e]; simp; omega
/-- Two pieces, joined as they were. -/
theorem One.again {n : Nat} {S : Nat → List Nat} {xs A B : List Nat} {a x y : Nat} (H : One n S xs) (e : xs = A ++ a :: B) (hx : x ∈ A) (hy : y ∈ a :: B) : One n (joinS (splitS S A a B) x y) xs := by
  refine ⟨H.nodup, H.mem, fun h hh => ?_, H.len⟩
  unfold joinS
  rw [H.cutL e hx, H.cutR e hy, ← e, if_pos]
  rw [e] at hh
  exact List.mem_append.1 hh

/-- An argument that is a slice of numbers, under the label nought. -/
def Arg0 (w : World) (o : Nat → Nat) (ao : Option Addr) (len : Nat) (z : Nat → Int) : Prop :=
  ∀ j, j < len → ∃ b off, ao = some ⟨b, off, none⟩ ∧ b < w.heap.size ∧ o b = 0 ∧ w.cell? ⟨b, off + j, none⟩ = some (.int .i64 (z j)) ∧ -9223372036854775808 ≤ z j ∧ z j ≤ 9223372036854775807
theorem Step.cell {I : Nat → Prop} {w w' : World} {o o' : Nat → Nat} (s : Step I w o w' o') {g : Nat} (hg : g < w.heap.size) (hi : ¬ I (o g)) (j : Nat) : w'.cell? ⟨g, j, none⟩ = w.cell? ⟨g, j, none⟩ := by
  unfold World.cell?
  show (match w'.heap[g]? with | _ => _) = (match w.heap[g]? with | _ => _)
  rw [s.block g hg hi]
theorem Arg0.step {I : Nat → Prop} {w w' : World} {o o' : Nat → Nat} {ao : Option Addr} {len : Nat} {z : Nat → Int} (h : Arg0 w o ao len z) (s : Step I w o w' o') (hi : ¬ I 0) : Arg0 w' o' ao len z := by
  intro j hj
  obtain ⟨b, off, h1, h2, h3, h4, h5⟩ := h j hj
  exact ⟨b, off, h1, Nat.lt_of_lt_of_le h2 s.size, (s.lab b h2).trans h3, (s.cell h2 (by rw [h3]; exact hi) _).trans h4, h5⟩
theorem Arg.at0 {w : World} {ao : Option Addr} {len : Nat} {z : Nat → Int} (h : Arg w ao len z) : Arg0 w o0 ao len z := by
  intro j hj
  obtain ⟨b, off, h1, h2, h4, h5⟩ := h j hj
  exact ⟨b, off, h1, h2, rfl, h4, h5⟩

end Go.Proofs.Ythdmajddmajjoaa
namespace Go.Proofs.Ythdmajddmajjoaa
open Go.ChangeShapes Go.WideShapes Go.ChangeAt Go.RowKit
set_option linter.unusedVariables false

/-- A script that came in, only read. -/
def ArgOps (w : World) (o : Nat → Nat) (ao : Option Addr) (len : Nat) (f : Nat → OpX) : Prop :=
  ∀ j, j < len → ∃ b off, ao = some ⟨b, off, none⟩ ∧ b < w.heap.size ∧ o b = 0 ∧ w.cell? ⟨b, off + j * 7, none⟩ = some (.int .i64 (f j).kd) ∧ w.cell? ⟨b, off + j * 7 + 1, none⟩ = some (.int .i64 (f j).a) ∧ w.cell? ⟨b, off + j * 7 + 2, none⟩ = some (.int .i64 (f j).b) ∧ w.cell? ⟨b, off + j * 7 + 3, none⟩ = some (.int .i64 (f j).v) ∧ w.cell? ⟨b, off + j * 7 + 4, none⟩ = some (.bool (f j).c) ∧ w.cell? ⟨b, off + j * 7 + 5, none⟩ = some (.int .i64 (f j).f) ∧ w.cell? ⟨b, off + j * 7 + 6, none⟩ = some (.bool (f j).ot)
theorem ArgOps.step {I : Nat → Prop} {w w' : World} {o o' : Nat → Nat} {ao : Option Addr} {len : Nat} {f : Nat → OpX} (h : ArgOps w o ao len f) (s : Step I w o w' o') (hi : ¬ I 0) : ArgOps w' o' ao len f := by
  intro j hj
  obtain ⟨b, off, h1, h2, h3, c0, c1, c2, c3, c4, c5, c6⟩ := h j hj
  have hc := fun k => s.cell h2 (by rw [h3]; exact hi) k
  exact ⟨b, off, h1, Nat.lt_of_lt_of_le h2 s.size, (s.lab b h2).trans h3, (hc _).trans c0, (hc _).trans c1, (hc _).trans c2, (hc _).trans c3, (hc _).trans c4, (hc _).trans c5, (hc _).trans c6⟩

theorem cellsOp : Try.prog.cellsOf 38 = 7 := by kernel_rfl
theorem bytesOp : Try.prog.bytesOf 38 = 56 := by kernel_rfl

set_option maxRecDepth 100000 in
theorem open_ops {H : Type} {enc : TypeId × Value → H} {W : World} {v : Value} {d : DataW H} {ps : List MemPlace} {ao : Option Addr} {len cap : Nat} (hv : v = .slice ao len cap)
    (h : DataW.Trod enc Try.prog W 0 (fun _ => true) true 22 v d ps) (hlt : ∀ x ∈ ps, x.block < W.heap.size) :
    (∃ f, ArgOps W o0 ao len f) ∧ ((d = .nil ∧ len = 0) ∨ ∃ es sp, d = .slice es sp ∧ es.length + sp.length = cap ∧ len ≤ cap) := by
  subst hv
  obtain ⟨fuel, hf⟩ := h
  rcases Go.Deep.open_slice Try.underlying22 hf with ⟨hcs, hx⟩ | ⟨a, len', cap', m, n, D, Pl, hcs, _, hl, hm, hmm, hx, hel⟩
  · simp [Value.cells] at hcs
    obtain ⟨rfl, rfl, rfl⟩ := hcs
    simp only [Prod.mk.injEq] at hx
    exact ⟨⟨fun _ => ⟨0, 0, 0, 0, false, 0, false⟩, fun j hj => by omega⟩, .inl ⟨hx.1, rfl⟩⟩
  · simp [Value.cells] at hcs
    obtain ⟨rfl, rfl, rfl⟩ := hcs
    simp only [Prod.mk.injEq] at hx
    obtain ⟨rfl, rfl⟩ := hx
    simp only [if_true] at hmm
    subst hmm
    refine ⟨?_, .inr ⟨_, _, rfl, by simp; omega, hl⟩⟩
    obtain ⟨b, off, spot⟩ := a
    have each : ∀ i, i < len → ∃ q : OpX, (⟨b, off, spot⟩ : Addr).spot = none ∧ b < W.heap.size ∧ o0 b = 0 ∧ W.cell? ⟨b, off + i * 7, none⟩ = some (.int .i64 q.kd) ∧ W.cell? ⟨b, off + i * 7 + 1, none⟩ = some (.int .i64 q.a) ∧ W.cell? ⟨b, off + i * 7 + 2, none⟩ = some (.int .i64 q.b) ∧ W.cell? ⟨b, off + i * 7 + 3, none⟩ = some (.int .i64 q.v) ∧ W.cell? ⟨b, off + i * 7 + 4, none⟩ = some (.bool q.c) ∧ W.cell? ⟨b, off + i * 7 + 5, none⟩ = some (.int .i64 q.f) ∧ W.cell? ⟨b, off + i * 7 + 6, none⟩ = some (.bool q.ot) := by
      intro i hi
      obtain ⟨cs', h1, h2⟩ := hel i (by omega)
      rw [cellsOp] at h1
      obtain ⟨_, hlen, hcell⟩ := World.cells?_some h1
      obtain ⟨xs, k, hk, hxy, _, hxl, hff⟩ := DataW.trod_struct Try.underlying38 h2
      match xs, hxl, cs', hlen with
      | [y0, y1, y2, y3, y4], _, [u0, u1, u2, u3, u4, u5, u6], _ =>
        have g0 := hff 0 _ rfl
        have g1 := hff 1 _ rfl
        have g2 := hff 2 _ rfl
        have g3 := hff 3 _ rfl
        have g4 := hff 4 _ rfl
        simp [cellsInt, cellsBool, cellsItem] at g0 g1 g2 g3 g4
        obtain ⟨z0, e0, _, _⟩ := DataW.trod_int Try.underlying3 g0
        obtain ⟨z1, e1, _, _⟩ := DataW.trod_int Try.underlying3 g1
        obtain ⟨z2, e2, _, _⟩ := DataW.trod_int Try.underlying3 g2
        obtain ⟨xs3, k3, hk3, hxy3, _, hxl3, hff3⟩ := DataW.trod_struct Try.underlying36 g3
        obtain ⟨z6, e6, _⟩ := DataW.trod_bool Try.underlying4 g4
        match xs3, hxl3 with
        | [v0, v1, v2], _ =>
          have f0 := hff3 0 _ rfl
          have f1 := hff3 1 _ rfl
          have f2 := hff3 2 _ rfl
          simp [cellsInt, cellsBool] at f0 f1 f2
          obtain ⟨z3, e3, _, _⟩ := DataW.trod_int Try.underlying3 f0
          obtain ⟨z4, e4, _⟩ := DataW.trod_bool Try.underlying4 f1
          obtain ⟨z5, e5, _, _⟩ := DataW.trod_int Try.underlying3 f2
          simp at e0 e1 e2 e3 e4 e5 e6
          subst e0 e1 e2 e3 e4 e5 e6
          have c0 := hcell 0 (by omega)
          have c1 := hcell 1 (by omega)
          have c2 := hcell 2 (by omega)
          have c3 := hcell 3 (by omega)
          have c4 := hcell 4 (by omega)
          have c5 := hcell 5 (by omega)
          have c6 := hcell 6 (by omega)
          have hspot : spot = none := by
            obtain ⟨cs0, k1, k2⟩ := hel 0 (by omega)
            rw [cellsOp] at k1
            obtain ⟨_, klen, kcell⟩ := World.cells?_some k1
            have k3 := kcell 0 (by omega)
            rw [List.getElem?_eq_getElem (by omega)] at k3
            simpa [Addr.add] using World.cell?_spot k3
          subst hspot
          simp only [add_plain] at c0 c1 c2 c3 c4 c5 c6
          have hbl : b < W.heap.size := hlt (.cell b off) (List.mem_append_left _ (MemPlace.mem_row.2 ⟨0, by rw [cellsOp]; omega, by simp⟩))
          exact ⟨⟨z0, z1, z2, z3, z4, z5, z6⟩, rfl, hbl, rfl, by simpa using c0, by simpa using c1, by simpa using c2, by simpa using c3, by simpa using c4, by simpa using c5, by simpa using c6⟩
    refine ⟨fun i => if h : i < len then (each i h).choose else ⟨0, 0, 0, 0, false, 0, false⟩, fun j hj => ?_⟩
    have hq := (each j hj).choose_spec
    simp only [dif_pos hj]
    obtain ⟨hs, hbl, h3⟩ := hq
    have hs' : spot = none := hs
    subst hs'
    exact ⟨b, off, rfl, hbl, h3⟩

end Go.Proofs.Ythdmajddmajjoaa
