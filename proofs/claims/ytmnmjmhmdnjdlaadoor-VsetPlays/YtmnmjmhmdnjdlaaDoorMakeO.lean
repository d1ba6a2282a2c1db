/- The book's steps that make a set of two. -/
import Derived.Test.YtmnmjmhmdnjdlaaDoorBook9
import Derived.Deep.CutBlock
import Derived.Deep.DeepCutAuto
namespace Go.Proofs.YtmnmjmhmdnjdlaaDoor
open Go.ChangeShapes Go.WideShapes Go.ChangeAt Go.RowKit Go.Maps
set_option linter.unusedVariables false
set_option linter.unusedSimpArgs false

/-- What a step that makes a set gives. -/
def MkOut (w : World) (o : Nat → Nat) (p : Nat) (va vw : Value) (e : Ending) (w' : World) : Prop := ∃ S', e = .returned (.bool true) ∧ Bk w' p S' S' va vw ∧ (∀ i, i < 4 → S' i < top64) ∧ Step (fun k => k = 1) w o w' o
theorem upd_lt {S : Nat → Nat} {i z : Nat} (h : ∀ j, j < 4 → S j < top64) (hz : z < top64) : ∀ j, j < 4 → (fun j => if j = i then z else S j) j < top64 := fun j hj => by
  show (if j = i then z else S j) < top64
  split
  · exact hz
  · exact h j hj
end Go.Proofs.YtmnmjmhmdnjdlaaDoor
