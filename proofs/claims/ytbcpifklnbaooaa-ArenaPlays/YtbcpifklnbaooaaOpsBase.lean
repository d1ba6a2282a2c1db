/- A script that came in: what its cells hold. No program. -/
import Derived.Test.YtbcpifklnbaooaaMem
namespace Go.Proofs.Ytbcpifklnbaooaa
open Go.ChangeShapes Go.WideShapes Go.ChangeAt Go.RowKit
set_option linter.unusedVariables false

/-- One call of a script, as it lies in memory. -/
structure OpAt where
  kd : Int
  x : Int
  y : Int
  b : Bool
/-- A script that came in, only read. -/
def ArgOps (w : World) (ao : Option Addr) (len : Nat) (f : Nat → OpAt) : Prop :=
  ∀ j, j < len → ∃ b off, ao = some ⟨b, off, none⟩ ∧ b < w.heap.size ∧ w.cell? ⟨b, off + j * 4, none⟩ = some (.int .i64 (f j).kd) ∧ w.cell? ⟨b, off + j * 4 + 1, none⟩ = some (.int .i64 (f j).x) ∧ w.cell? ⟨b, off + j * 4 + 2, none⟩ = some (.int .i64 (f j).y) ∧ w.cell? ⟨b, off + j * 4 + 3, none⟩ = some (.bool (f j).b) ∧ -9223372036854775808 ≤ (f j).y ∧ (f j).y ≤ 9223372036854775807
theorem ArgOps.below {w w' : World} {ao : Option Addr} {len : Nat} {f : Nat → OpAt} (h : ArgOps w ao len f) (hb : Below w.heap.size w w') : ArgOps w' ao len f := by
  intro j hj
  obtain ⟨b, off, h1, h2, h3, h4, h5, h6, h7⟩ := h j hj
  exact ⟨b, off, h1, Nat.lt_of_lt_of_le h2 hb.size, (hb.cell (p := ⟨b, off + j * 4, none⟩) h2).trans h3, (hb.cell (p := ⟨b, off + j * 4 + 1, none⟩) h2).trans h4, (hb.cell (p := ⟨b, off + j * 4 + 2, none⟩) h2).trans h5, (hb.cell (p := ⟨b, off + j * 4 + 3, none⟩) h2).trans h6, h7⟩

end Go.Proofs.Ytbcpifklnbaooaa
