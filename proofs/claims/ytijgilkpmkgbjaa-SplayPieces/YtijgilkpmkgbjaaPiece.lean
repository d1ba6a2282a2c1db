/- A sequence comes to what its own items do; the first one with a flag is told. -/
import Derived.Test.YtijgilkpmkgbjaaStands
import Derived.Test.YtijgilkpmkgbjaaItems
namespace Go.Proofs.Ytijgilkpmkgbjaa
open Go.ChangeShapes Go.WideShapes Go.ChangeAt Go.RowKit
set_option linter.unusedVariables false

/-- A slice of items, only read: its block lies under label i. -/
def VwI (w : World) (o : Nat → Nat) (i : Nat) (v : Value) (its : List It) : Prop :=
  ∃ g off cap, v = .slice (some ⟨g, off, none⟩) its.length cap ∧ its.length ≤ cap ∧ cap ≤ maxLen ∧ o g = i ∧ g < w.heap.size ∧ ∀ j (hj : j < its.length), w.cell? ⟨g, off + j * 3, none⟩ = some (.int .i64 its[j].v) ∧ w.cell? ⟨g, off + j * 3 + 1, none⟩ = some (.bool its[j].c) ∧ w.cell? ⟨g, off + j * 3 + 2, none⟩ = some (.int .i64 its[j].f)
theorem VwI.step {I : Nat → Prop} {w w' : World} {o o' : Nat → Nat} {i : Nat} {v : Value} {its : List It} (h : VwI w o i v its) (s : Step I w o w' o') (hi : ¬ I i) : VwI w' o' i v its := by
  obtain ⟨g, off, cap, rfl, h1, h2, h3, h4, h5⟩ := h
  refine ⟨g, off, cap, rfl, h1, h2, (s.lab g h4).trans h3, Nat.lt_of_lt_of_le h4 s.size, fun j hj => ?_⟩
  have hc := fun k => s.cell h4 (by rw [h3]; exact hi) k
  obtain ⟨c0, c1, c2⟩ := h5 j hj
  exact ⟨(hc _).trans c0, (hc _).trans c1, (hc _).trans c2⟩

/-- The first of some handles whose item has one of the flags; 0 if there is none. -/
def firstF (it : Nat → It) (f : Nat) : List Nat → Nat
  | [] => 0
  | a :: l => if (it a).f &&& f = 0 then firstF it f l else a
theorem firstF_none {it : Nat → It} {f : Nat} : ∀ {l : List Nat}, (∀ k ∈ l, (it k).f &&& f = 0) → firstF it f l = 0
  | [], _ => rfl
  | a :: l, h => by unfold firstF; rw [if_pos (h a (by simp))]; exact firstF_none (fun k hk => h k (by simp [hk]))
theorem firstF_some {it : Nat → It} {f : Nat} {b : Nat} : ∀ {A B : List Nat}, (∀ k ∈ A, (it k).f &&& f = 0) → (it b).f &&& f ≠ 0 → firstF it f (A ++ b :: B) = b
  | [], B, _, h => by show firstF it f (b :: B) = b; unfold firstF; rw [if_neg h]
  | a :: A, B, hA, h => by show firstF it f (a :: (A ++ b :: B)) = b; unfold firstF; rw [if_pos (hA a (by simp))]; exact firstF_some (fun k hk => hA k (by simp [hk])) h
theorem firstF_snoc {it : Nat → It} {f a : Nat} : ∀ {l : List Nat}, (∀ k ∈ l, k ≠ 0) → firstF it f (l ++ [a]) = if firstF it f l = 0 ∧ (it a).f &&& f ≠ 0 then a else firstF it f l
  | [], _ => by
    show firstF it f [a] = _
    by_cases h : (it a).f &&& f = 0 <;> simp [firstF, h]
  | b :: l, hl => by
    show firstF it f (b :: (l ++ [a])) = _
    have ih := firstF_snoc (it := it) (f := f) (a := a) (l := l) (fun k hk => hl k (by simp [hk]))
    by_cases h : (it b).f &&& f = 0
    · simp only [firstF, h, if_true]; exact ih
    · have hb := hl b (by simp)
      simp [firstF, h, hb]
/-- The state of the loop: what the first k items come to; the first flagged one. -/
def PieceS (w2 : World) (o2 : Nat → Nat) (b : Nat) (its : List It) (k : Nat) (wr : World) : Prop :=
  ∃ o', Blk wr o' 6001 b (.cells #[.int .i64 (agg (its.take k)).count, .int .i64 (agg (its.take k)).sum, .int .i64 (agg (its.take k)).least, .int .i64 (agg (its.take k)).most, .int .i64 (agg (its.take k)).flags] 60 (0, 0)) ∧ Step (fun k => k = 6001) w2 o2 wr o'

theorem take_agg {its : List It} {k : Nat} (hk : k < its.length) : agg (its.take (k + 1)) = (agg (its.take k)).both its[k].one := by rw [List.take_succ_eq_append_getElem hk, agg_snoc]
theorem flag_piece (p room n : Nat) (free : List Nat) (it : Nat → It) (S : Nat → List Nat) (ys : List Nat) (a f : Nat) (hf : f ≤ 255) (ha : Live n free a) (hS : S a = ys) (h0 : ∀ k ∈ ys, k ≠ 0) :
    ∃ r : Int, ((firstF it f ys = 0 ∧ r = 35) ∨ (firstF it f ys ≠ 0 ∧ r = 0)) ∧ ∀ wx ox, Fo wx ox 1 p room n free it S → Calls Try.prog 25 #[.pointer (some ⟨p, 0, none⟩), .int .i64 a, .int .i64 f] wx fun e w' => e = .returned (.tuple #[.int .i64 (firstF it f ys : Nat), .int .i64 r]) ∧ ∃ o', Fo w' o' 1 p room n free it S ∧ Step (FL 1) wx ox w' o' := by
  have split : ∀ l : List Nat, (∀ k ∈ l, (it k).f &&& f = 0) ∨ ∃ A b B, l = A ++ b :: B ∧ (∀ k ∈ A, (it k).f &&& f = 0) ∧ (it b).f &&& f ≠ 0 := by
    intro l
    induction l with
    | nil => exact .inl (by simp)
    | cons c l ih =>
      by_cases h : (it c).f &&& f = 0
      · rcases ih with h2 | ⟨A, b, B, e, h2, h3⟩
        · exact .inl (fun k hk => by rcases List.mem_cons.1 hk with rfl | hk; exact h; exact h2 k hk)
        · exact .inr ⟨c :: A, b, B, by rw [e]; rfl, fun k hk => by rcases List.mem_cons.1 hk with rfl | hk; exact h; exact h2 k hk, h3⟩
      · exact .inr ⟨[], c, l, rfl, by simp, h⟩
  rcases split ys with hn | ⟨A, b, B, e, hn, hb⟩
  · refine ⟨35, .inl ⟨firstF_none hn, rfl⟩, fun wx ox Fx => ?_⟩
    rw [firstF_none hn]
    exact flagNoneF wx ox 1 p room n free it S a f Fx ha hf (by rw [hS]; exact hn)
  · have e1 : firstF it f ys = b := by rw [e]; exact firstF_some hn hb
    refine ⟨0, .inr ⟨by rw [e1]; exact h0 b (by rw [e]; simp), rfl⟩, fun wx ox Fx => ?_⟩
    rw [e1]
    exact flagInF wx ox 1 p room n free it S a f b A B Fx ha hf (by rw [hS]; exact e) hn hb

def PL (lb : Nat) : Nat → Prop := fun k => FL 1 k ∨ k = lb ∨ k = 6000 ∨ k = 6001

end Go.Proofs.Ytijgilkpmkgbjaa
