/- The law PackZigs, walked: zigzags are the document's, and lead back. -/
import Derived.Test.YtbpjpdnkebdanaaDoorAwake
import Derived.Test.YtbpjpdnkebdanaaDoorRefs
namespace Go.Proofs.YtbpjpdnkebdanaaDoor.packZigs
open Go.ChangeShapes Go.WideShapes Go.ChangeAt Go.RowKit
set_option linter.unusedVariables false

theorem back1 (n : Int) (w : World) (h1 : -9223372036854775808 ≤ n) (h2 : n ≤ 9223372036854775807) :
    Calls Tryd.prog 11 #[.int .u64 (zg n)] w fun e w' => e = .returned (.int .i64 n) ∧ w' = w :=
  (zag_any (zg n) w (zg_bd n h1 h2).1 (zg_bd n h1 h2).2).mono fun e w' ⟨h1, h2⟩ => ⟨h1.trans (ret_int (zgb_zg n)), h2⟩
theorem back2 (u : Int) (w : World) (h1 : 0 ≤ u) (h2 : u < 18446744073709551616) :
    Calls Tryd.prog 10 #[.int .i64 (zgb u)] w fun e w' => e = .returned (.int .u64 u) ∧ w' = w :=
  (zig_any (zgb u) w (zgb_bd u h1 h2).1 (zgb_bd u h1 h2).2).mono fun e w' ⟨g1, g2⟩ => ⟨g1.trans (ret_int (zg_zgb u h1)), g2⟩

set_option maxRecDepth 100000 in
theorem walk (n u : Int) (w : World) (hT : Tab w) (h1 : -9223372036854775808 ≤ n) (h2 : n ≤ 9223372036854775807) (g1 : 0 ≤ u) (g2 : u < 18446744073709551616) :
    Calls Tryd.prog 3 #[.int .i64 n, .int .u64 u] w fun e w' => e = .returned (.bool true) ∧ Below w.heap.size w w' := by
  go_enter Tryd.func3, Tryd.ntmps3
  go_wp2_with fail
  refine (awake_any w hT).mono ?_
  rintro e w1 ⟨rfl, hb1⟩
  go_wp2_with fail
  refine (zig_any n _ h1 h2).mono ?_
  rintro e w2 ⟨rfl, rfl⟩
  go_wp2_with fail
  refine (zag_any u _ g1 g2).mono ?_
  rintro e w2 ⟨rfl, rfl⟩
  go_wp2_with fail
  refine (rzig_any n _ h1 h2).mono ?_
  rintro e w2 ⟨rfl, rfl⟩
  go_wp2_with fail
  refine (rzag_any u _ g1 g2).mono ?_
  rintro e w2 ⟨rfl, rfl⟩
  go_wp2_with fail
  refine (back1 n _ h1 h2).mono ?_
  rintro e w2 ⟨rfl, rfl⟩
  go_wp2_with fail
  refine (back2 u _ g1 g2).mono ?_
  rintro e w2 ⟨rfl, rfl⟩
  go_wp2
  go_ret
  exact ⟨ret_bool (by simp), hb1⟩
end Go.Proofs.YtbpjpdnkebdanaaDoor.packZigs
