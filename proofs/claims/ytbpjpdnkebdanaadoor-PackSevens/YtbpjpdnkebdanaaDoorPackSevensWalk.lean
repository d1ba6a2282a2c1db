/- The law PackSevens, walked: what is laid is the document's, and is read again with whatever stands behind. -/
import Derived.Test.YtbpjpdnkebdanaaDoorAwake
import Derived.Test.YtbpjpdnkebdanaaDoorRPut
namespace Go.Proofs.YtbpjpdnkebdanaaDoor.packSevens
open Go.ChangeShapes Go.WideShapes Go.ChangeAt Go.RowKit
set_option linter.unusedVariables false

set_option maxRecDepth 100000 in
theorem walk (u : Int) (s : ByteArray) (w : World) (hT : Tab w) (h1 : 0 ≤ u) (h2 : u < 18446744073709551616) (hs : s.size ≤ maxLen) :
    Calls Tryd.prog 4 #[.int .u64 u, .string s] w fun e w' => e = .returned (.bool true) ∧ Below w.heap.size w w' := by
  unfold maxLen at hs
  have hq := (sevs_len u).2
  by_cases hl : (2147483548 : Int) < s.size
  · go_enter Tryd.func4, Tryd.ntmps4
    go_wp2_with fail
    refine (awake_any w hT).mono ?_
    rintro e w1 ⟨rfl, hb1⟩
    go_wp2
    go_ret
    exact ⟨rfl, hb1⟩
  · go_enter Tryd.func4, Tryd.ntmps4
    go_wp2_with fail
    refine (awake_any w hT).mono ?_
    rintro e w1 ⟨rfl, hb1⟩
    go_wp2_with fail
    refine (put_any u _ h1 h2).mono ?_
    rintro e w2 ⟨rfl, hb2⟩
    go_wp2_with fail
    refine (take_put u s _ h1 h2 (by omega)).mono ?_
    rintro e w3 ⟨rfl, rfl⟩
    go_wp2_with fail
    refine (rput_any u _ h1 h2).mono ?_
    rintro e w3 ⟨rfl, hb3⟩
    go_wp2
    go_ret
    exact ⟨ret_bool (by simp), bjoin (bjoin hb1 hb2) hb3⟩
end Go.Proofs.YtbpjpdnkebdanaaDoor.packSevens
