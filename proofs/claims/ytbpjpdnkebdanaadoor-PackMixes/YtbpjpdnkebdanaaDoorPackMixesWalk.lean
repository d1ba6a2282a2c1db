/- The law PackMixes, walked: the stirring of a sum is the document's. -/
import Derived.Test.YtbpjpdnkebdanaaDoorAwake
namespace Go.Proofs.YtbpjpdnkebdanaaDoor
open Go.ChangeShapes Go.WideShapes Go.ChangeAt Go.RowKit
set_option linter.unusedVariables false

theorem rzig_any (n : Int) (w : World) (h1 : -9223372036854775808 ≤ n) (h2 : n ≤ 9223372036854775807) :
    Calls Tryd.prog 12 #[.int .i64 n] w fun e w' => e = .returned (.int .u64 (zg n)) ∧ w' = w := by
  by_cases h : 0 ≤ n
  · go_enter Tryd.func12, Tryd.ntmps12
    go_wp2
    go_ret
    exact ⟨ret_int (by unfold zg; rw [if_pos h]), rfl⟩
  · have h' : n < 0 := by omega
    have e : 2 * -(n + 1) + 1 = zg n := by unfold zg; rw [if_neg h]; omega
    have E : Hid (2 * -(n + 1) + 1 = zg n) := e
    clear h e
    go_enter Tryd.func12, Tryd.ntmps12
    go_wp2
    go_ret
    exact ⟨ret_int E.out, rfl⟩
theorem rmix_any (h n : Int) (w : World) (g1 : 0 ≤ h) (g2 : h < 18446744073709551616) (h1 : -9223372036854775808 ≤ n) (h2 : n ≤ 9223372036854775807) :
    Calls Tryd.prog 23 #[.int .u64 h, .int .i64 n] w fun e w' => e = .returned (.int .u64 (mx h (zg n))) ∧ w' = w := by
  have b := zg_bd n h1 h2
  go_enter Tryd.func23, Tryd.ntmps23
  go_wp2_with (go_at_call 12; refine (rzig_any _ _ h1 h2).mono ?_; rintro e w' ⟨rfl, rfl⟩)
  go_ret
  exact ⟨ret_int (mx_eq_ref h (zg n) g1 g2 b.1 b.2), rfl⟩

namespace packMixes
set_option maxRecDepth 100000 in
theorem walk (h n : Int) (w : World) (hT : Tab w) (g1 : 0 ≤ h) (g2 : h < 18446744073709551616) (h1 : -9223372036854775808 ≤ n) (h2 : n ≤ 9223372036854775807) :
    Calls Tryd.prog 8 #[.int .u64 h, .int .i64 n] w fun e w' => e = .returned (.bool true) ∧ Below w.heap.size w w' := by
  go_enter Tryd.func8, Tryd.ntmps8
  go_wp2_with fail
  refine (awake_any w hT).mono ?_
  rintro e w1 ⟨rfl, hb1⟩
  go_wp2_with fail
  refine (mix_any h n _ g1 g2 h1 h2).mono ?_
  rintro e w2 ⟨rfl, rfl⟩
  go_wp2_with fail
  refine (rmix_any h n _ g1 g2 h1 h2).mono ?_
  rintro e w2 ⟨rfl, rfl⟩
  go_wp2
  go_ret
  exact ⟨ret_bool (by simp), hb1⟩
end packMixes
end Go.Proofs.YtbpjpdnkebdanaaDoor
