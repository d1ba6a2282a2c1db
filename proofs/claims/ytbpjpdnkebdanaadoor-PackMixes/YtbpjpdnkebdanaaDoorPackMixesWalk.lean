/- The law PackMixes, walked: the stirring of a sum is the document's. -/
import Derived.Test.YtbpjpdnkebdanaaDoorAwake
import Derived.Test.YtbpjpdnkebdanaaDoorRefs
namespace Go.Proofs.YtbpjpdnkebdanaaDoor
open Go.ChangeShapes Go.WideShapes Go.ChangeAt Go.RowKit
set_option linter.unusedVariables false

namespace packMixes
set_option maxRecDepth 100000 in
theorem walk (h n : Int) (w : World) (hT : Tab w) (g1 : 0 ≤ h) (g2 : h < 18446744073709551616) (h1 : -9223372036854775808 ≤ n) (h2 : n ≤ 9223372036854775807) :
    Calls Tryd.prog 8 #[.int .u64 h, .int .i64 n] w fun e w' => e = .returned (.bool true) ∧ Below w.heap.size w w' := by
  go_enter Tryd.func8, Tryd.ntmps8
  go_wp2_with fail
  refine (awake_any w hT).mono ?_
  rintro e w1 ⟨rfl, hb1⟩
  go_wp2_with fail
  refine (mix_any h n _ g1 g2 h1 h2).mono ?_
  rintro e w2 ⟨rfl, rfl⟩
  go_wp2_with fail
  refine (rmix_any h n _ g1 g2 h1 h2).mono ?_
  rintro e w2 ⟨rfl, rfl⟩
  go_wp2
  go_ret
  exact ⟨ret_bool (by simp), hb1⟩
end packMixes
end Go.Proofs.YtbpjpdnkebdanaaDoor
