/- The chapter's first example. -/
import Derived.Test.YtffmlffhiimmdaaLaw5
namespace Go.Proofs.Ytffmlffhiimmdaa
open Go.ChangeShapes Go.WideShapes Go.ChangeAt Go.RowKit Go.Maps
set_option linter.unusedVariables false

theorem Step.posT {w w' : World} {o o' : Nat → Nat} {L : Nat} (s : Step (TL L) w o w' o') (h : 0 < L) : Step Pos w o w' o' := s.mono fun k hk => Nat.lt_of_lt_of_le h hk.1
theorem Step.posW {w w' : World} {o o' : Nat → Nat} {L lb : Nat} (s : Step (fun k => TL L k ∨ k = lb) w o w' o') (h : 0 < L) (h2 : 0 < lb) : Step Pos w o w' o' := s.mono fun k hk => hk.elim (fun hk => Nat.lt_of_lt_of_le h hk.1) (fun hk => by rw [hk]; exact h2)
/-- The heaviest edge, reckoned. -/
def topF (E : Nat → Ed) : List Nat → Nat
  | [] => 0
  | k :: W => hvr E (own k) (topF E W)
theorem TopE.topF {E : Nat → Ed} : ∀ (W : List Nat), (∀ k ∈ W, k ≠ 0) → TopE E W (topF E W)
  | [], _ => TopE.nil
  | k :: W, h => (TopE.own (h k (by simp))).hvr (TopE.topF W (fun j hj => h j (by simp [hj])))
def awR0 : Nat → List Nat := fun x => [x]
def awE0 : Nat → Option Ed := fun _ => none
def awR1 : Nat → List Nat := linkR awR0 3 1 16
def awE1 : Nat → Option Ed := upd awE0 7 (some ⟨1, 0, 30⟩)
def awR2 : Nat → List Nat := linkR awR1 5 3 18
def awE2 : Nat → Option Ed := upd awE1 8 (some ⟨2, 1, 50⟩)
def awR3 : Nat → List Nat := linkR awR2 7 3 20
def awE3 : Nat → Option Ed := upd awE2 9 (some ⟨3, 1, 50⟩)
theorem aw1 : (awR0 3).head? ≠ (awR0 1).head? := by decide
theorem aw2 : (awR1 5).head? ≠ (awR1 3).head? := by decide
theorem aw3 : (awR2 7).head? ≠ (awR2 3).head? := by decide
theorem aw4 : (awR3 7).head? = some 1 := by decide
theorem aw5 : way awR3 2 3 = [5, 18, 3, 20, 7] := by decide
theorem aw6 : idl (way awR3 2 0) = [8, 7] := by decide
theorem aw7 : (awR3 5).head? = (awR3 7).head? := by decide
theorem aw8 : (awR3 5).head? = (awR3 1).head? := by decide
theorem aw9 : (awR3 7).head? = (awR3 1).head? := by decide
theorem awT {t : Nat} (h : TopE (edE awE3) (way awR3 2 3) t) : t = 20 := by
  rw [aw5] at h
  have := h.uniq (TopE.topF [5, 18, 3, 20, 7] (by decide))
  rw [this]; decide
theorem TL.no {k : Nat} (h : 5000000000000 ≤ k) : ¬ TL 1 k := fun x => by have := x.2; omega
/-- A list that is typed out. -/
theorem Vw.typed (w : World) (o : Nat → Nat) (i : Nat) (xs : List Nat) (cs : Array Value) (t : TypeId) (n : Nat) (hn : n = xs.length) (hc : cs.toList = intsL xs) (hl : xs.length ≤ 100) : Vw (w.alloc (.cells cs t)) (newLab w o i) i (.slice (some ⟨w.heap.size, 0, none⟩) n n) xs := by
  subst hn
  refine ⟨_, _, rfl, Nat.le_refl _, by unfold maxLen; omega, fun h => ⟨_, 0, rfl, newLab_new (Nat.le_refl _), by simp, fun j hj => ?_⟩⟩
  have hb : (w.alloc (.cells cs t)).heap[w.heap.size]? = some (.cells cs t (0, 0)) := heap_alloc_new w _
  have hj2 : cs[j]? = some (.int .i64 (xs[j] : Nat)) := by
    rw [← Array.getElem?_toList, hc]; exact intsL_get xs j hj
  rw [cell_of_row _ _ _ _ t (0, 0) hb, Nat.zero_add, hj2]

end Go.Proofs.Ytffmlffhiimmdaa
