/- Sets with a number more, with one less; the next number. -/
import Derived.Test.YtmpkhbblakfglaaDoorSetD
namespace Go.Proofs.YtmpkhbblakfglaaDoor
open Go.ChangeShapes Go.WideShapes Go.ChangeAt Go.RowKit
set_option linter.unusedVariables false

theorem other_cell {w : World} {b1 b2 : Nat} (h : b1 ≠ b2) (v : Value) : (w.setCell ⟨b2, 0, none⟩ v).cell? ⟨b1, 0, none⟩ = w.cell? ⟨b1, 0, none⟩ :=
  World.cell?_setCell_other _ _ _ _ (fun e => h (by injection e with e; exact e.symm))
/-- What a call finds in a box that it has made, and in one for its result. -/
theorem two_boxes (w : World) (x : Nat) (t : TypeId) (w1 : World) (h : w1 = (w.alloc (.cells #[.int .u64 (x : Nat)] t)).alloc (.cells #[.int .u64 0] t)) (b1 b2 : Nat) (h1 : b1 = w.heap.size) (h2 : b2 = w.heap.size + 1) :
    w1.cell? ⟨b1, 0, none⟩ = some (.int .u64 (x : Nat)) ∧ w1.cell? ⟨b2, 0, none⟩ = some (.int .u64 0) ∧ w1.frozen? ⟨b2, 0, none⟩ = false ∧ b1 < w1.heap.size ∧ b2 < w1.heap.size ∧ w.heap.size ≤ b2 ∧ b1 ≠ b2 ∧ Below w.heap.size w w1 := by
  subst h h1 h2
  refine ⟨?_, ?_, ?_, ?_, ?_, by omega, by omega, bal (bal (b0 _) _) _⟩
  · rw [Below.cell (bal (b0 _) _) (by simp)]; simp
  · simp
  · simp
  · simp; omega
  · simp

end Go.Proofs.YtmpkhbblakfglaaDoor
