/- Two rows of the table of types, and what a walk reads of a struct of four fields. -/
import Derived.Test.YtlmeonpdjcophaaDoorRows
import Derived.Test.YtlmeonpdjcophaaDoorAr
namespace Go.Proofs.YtlmeonpdjcophaaDoor
open Go.ChangeShapes Go.WideShapes Go.ChangeAt Go.RowKit
set_option linter.unusedVariables false

theorem infoBool : (Tryd.prog.info? 4).map (fun i => (i.zero, i.size, i.bytes)) = some (some (.bool false), 1, 1) := by kernel_rfl
theorem infoInt : (Tryd.prog.info? 3).map (fun i => (i.zero, i.size, i.bytes)) = some (some (.int .i64 0), 1, 8) := by kernel_rfl
/-- What a walk reads of an arena's block. -/
theorem Blk.cells4 {w : World} {o : Nat → Nat} {i b : Nat} {a0 a1 a2 a3 : Value} {t : TypeId} (h : Blk w o i b (.cells #[a0, a1, a2, a3] t (0, 0))) :
    w.cell? ⟨b, 0, none⟩ = some a0 ∧ w.cell? ⟨b, 1, none⟩ = some a1 ∧ w.cell? ⟨b, 2, none⟩ = some a2 ∧ w.cell? ⟨b, 3, none⟩ = some a3 ∧ ∀ j, w.frozen? ⟨b, j, none⟩ = false := by
  refine ⟨?_, ?_, ?_, ?_, fun j => frozen_of_row w b j _ t h.1⟩ <;> simp [cell_of_row w b _ _ t (0, 0) h.1]


end Go.Proofs.YtlmeonpdjcophaaDoor
