/- Sets asked for a number, with a number more and with one less. -/
import Derived.Test.YtmpkhbblakfglaaDoorSetC
import Derived.Deep.RegionHeld3
namespace Go.Proofs.YtmpkhbblakfglaaDoor
open Go.ChangeShapes Go.WideShapes Go.ChangeAt Go.RowKit
set_option linter.unusedVariables false

theorem box_cell (w : World) (x : Int) (t : TypeId) : (w.alloc (.cells #[.int .u64 x] t)).cell? ⟨w.heap.size, 0, none⟩ = some (.int .u64 x) := by simp
theorem bdr {a w : World} (h : Below a.heap.size a w) (n : Nat) : Below a.heap.size a (w.drewN n) := ⟨h.os, h.tape, h.output, h.size, h.block⟩
end Go.Proofs.YtmpkhbblakfglaaDoor
