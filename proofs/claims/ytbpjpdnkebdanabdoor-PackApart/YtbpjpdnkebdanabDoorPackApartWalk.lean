/- The law PackApart, walked: of one number unlike sums stay unlike, of one sum unlike numbers tell. -/
import Derived.Test.YtbpjpdnkebdanabDoorAwake
import Derived.Test.YtbpjpdnkebdanabDoorMixes
namespace Go.Proofs.YtbpjpdnkebdanabDoor.packApart
open Go.ChangeShapes Go.WideShapes Go.ChangeAt Go.RowKit
set_option linter.unusedVariables false

set_option maxRecDepth 100000 in
set_option maxHeartbeats 800000 in
theorem walk (h k n m : Int) (w : World) (hT : Tab w) (g1 : 0 ≤ h) (g2 : h < 18446744073709551616) (k1 : 0 ≤ k) (k2 : k < 18446744073709551616)
    (n1 : -9223372036854775808 ≤ n) (n2 : n ≤ 9223372036854775807) (m1 : -9223372036854775808 ≤ m) (m2 : m ≤ 9223372036854775807) :
    Calls Tryd.prog 3 #[.int .u64 h, .int .u64 k, .int .i64 n, .int .i64 m] w fun e w' => e = .returned (.bool true) ∧ Below w.heap.size w w' := by
  have bn := zg_bd n n1 n2
  have bm := zg_bd m m1 m2
  by_cases e1 : h = k
  · subst e1
    by_cases e2 : n = m
    · subst e2
      go_enter Tryd.func3, Tryd.ntmps3
      go_wp2_with fail
      refine (awake_any w hT).mono ?_
      rintro e w1 ⟨rfl, hb1⟩
      go_wp2_with fail
      refine (mix_any h n _ g1 g2 n1 n2).mono ?_
      rintro e w2 ⟨rfl, rfl⟩
      go_wp2_with fail
      refine (mix_any h n _ k1 k2 n1 n2).mono ?_
      rintro e w2 ⟨rfl, rfl⟩
      go_wp2_with fail
      refine (mix_any h n _ g1 g2 n1 n2).mono ?_
      rintro e w2 ⟨rfl, rfl⟩
      go_wp2_with fail
      refine (mix_any h n _ g1 g2 m1 m2).mono ?_
      rintro e w2 ⟨rfl, rfl⟩
      go_wp2
      go_ret
      exact ⟨ret_bool (by simp), hb1⟩
    · have f2 : (mx h (zg n) == mx h (zg m)) = false := beq_false_of_ne fun c => e2 (zg_inj n m (mx_right h (zg n) (zg m) g1 g2 bn.1 bn.2 bm.1 bm.2 c))
      have f3 : (n == m) = false := beq_false_of_ne e2
      clear e2
      go_enter Tryd.func3, Tryd.ntmps3
      go_wp2_with fail
      refine (awake_any w hT).mono ?_
      rintro e w1 ⟨rfl, hb1⟩
      go_wp2_with fail
      refine (mix_any h n _ g1 g2 n1 n2).mono ?_
      rintro e w2 ⟨rfl, rfl⟩
      go_wp2_with fail
      refine (mix_any h n _ k1 k2 n1 n2).mono ?_
      rintro e w2 ⟨rfl, rfl⟩
      go_wp2_with fail
      refine (mix_any h n _ g1 g2 n1 n2).mono ?_
      rintro e w2 ⟨rfl, rfl⟩
      go_wp2_with fail
      refine (mix_any h m _ g1 g2 m1 m2).mono ?_
      rintro e w2 ⟨rfl, rfl⟩
      go_wp2
      go_ret
      exact ⟨ret_bool (by simp), hb1⟩
  · have f1 : (mx h (zg n) == mx k (zg n)) = false := beq_false_of_ne fun c => e1 (mx_left h k (zg n) g1 g2 k1 k2 bn.1 bn.2 c)
    have f0 : (h == k) = false := beq_false_of_ne e1
    clear e1
    by_cases e2 : n = m
    · subst e2
      go_enter Tryd.func3, Tryd.ntmps3
      go_wp2_with fail
      refine (awake_any w hT).mono ?_
      rintro e w1 ⟨rfl, hb1⟩
      go_wp2_with fail
      refine (mix_any h n _ g1 g2 n1 n2).mono ?_
      rintro e w2 ⟨rfl, rfl⟩
      go_wp2_with fail
      refine (mix_any k n _ k1 k2 n1 n2).mono ?_
      rintro e w2 ⟨rfl, rfl⟩
      go_wp2_with fail
      refine (mix_any h n _ g1 g2 n1 n2).mono ?_
      rintro e w2 ⟨rfl, rfl⟩
      go_wp2_with fail
      refine (mix_any h n _ g1 g2 m1 m2).mono ?_
      rintro e w2 ⟨rfl, rfl⟩
      go_wp2
      go_ret
      exact ⟨ret_bool (by simp), hb1⟩
    · have f2 : (mx h (zg n) == mx h (zg m)) = false := beq_false_of_ne fun c => e2 (zg_inj n m (mx_right h (zg n) (zg m) g1 g2 bn.1 bn.2 bm.1 bm.2 c))
      have f3 : (n == m) = false := beq_false_of_ne e2
      clear e2
      go_enter Tryd.func3, Tryd.ntmps3
      go_wp2_with fail
      refine (awake_any w hT).mono ?_
      rintro e w1 ⟨rfl, hb1⟩
      go_wp2_with fail
      refine (mix_any h n _ g1 g2 n1 n2).mono ?_
      rintro e w2 ⟨rfl, rfl⟩
      go_wp2_with fail
      refine (mix_any k n _ k1 k2 n1 n2).mono ?_
      rintro e w2 ⟨rfl, rfl⟩
      go_wp2_with fail
      refine (mix_any h n _ g1 g2 n1 n2).mono ?_
      rintro e w2 ⟨rfl, rfl⟩
      go_wp2_with fail
      refine (mix_any h m _ g1 g2 m1 m2).mono ?_
      rintro e w2 ⟨rfl, rfl⟩
      go_wp2
      go_ret
      exact ⟨ret_bool (by simp), hb1⟩
end Go.Proofs.YtbpjpdnkebdanabDoor.packApart
