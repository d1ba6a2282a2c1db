/- The law LexNames, walked. -/
import Derived.Test.YtgebhhfliphpdaaDoorLexR
namespace Go.Proofs.YtgebhhfliphpdaaDoor
open Go.ChangeShapes Go.WideShapes Go.ChangeAt Go.RowKit
set_option linter.unusedVariables false

set_option maxRecDepth 100000 in
theorem names_walk (s : ByteArray) (w : World) (hs : s.size ≤ maxLen) (hW : Wd w) (hE : Ers w) :
    Calls Tryd.prog 4 #[.string s] w fun e w' => e = .returned (.bool true) ∧ Below w.heap.size w w' := by
  have n1 : nameB (⟨#[105, 110, 95]⟩ : ByteArray).data.toList = true := by kernel_rfl
  have n2 : nameB (⟨#[105, 110]⟩ : ByteArray).data.toList = false := by kernel_rfl
  go_enter Tryd.func4, Tryd.ntmps4
  go_wp2_with fail
  refine (awake_c w hW hE).mono ?_
  rintro e w1 ⟨rfl, hb1⟩
  have W1 := hW.below hb1
  go_wp2_with fail
  refine (name_c ⟨#[105, 110, 95]⟩ w1 W1 (by unfold maxLen; decide)).mono ?_
  rw [n1]
  rintro e w2 ⟨rfl, hb2⟩
  have W2 := W1.below hb2
  go_wp2_with fail
  refine (name_c ⟨#[105, 110]⟩ w2 W2 (by unfold maxLen; decide)).mono ?_
  rw [n2]
  rintro e w3 ⟨rfl, hb3⟩
  have W3 := W2.below hb3
  have B3 := (hb1.trans (hb2.mono hb1.size)).trans (hb3.mono (Nat.le_trans hb1.size hb2.size))
  clear hb1 hb2 hb3 n1 n2
  go_wp2_with fail
  refine (name_c s w3 W3 hs).mono ?_
  rintro e w4 ⟨rfl, hb4⟩
  have B4 := B3.trans (hb4.mono B3.size)
  go_wp2_with fail
  refine (name_r s w4 hs).mono ?_
  rintro e w5 ⟨rfl, hb5⟩
  have B5 := B4.trans (hb5.mono B4.size)
  generalize nameB s.data.toList = b
  go_wp2
  go_ret
  exact ⟨by simp, B5⟩
end Go.Proofs.YtgebhhfliphpdaaDoor
