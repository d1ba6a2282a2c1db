/- What the document's own functions for package pack answer: zigzags, words, the stirring. -/
import Derived.Test.YtbpjpdnkebdanaaDoorPlain
namespace Go.Proofs.YtbpjpdnkebdanaaDoor
open Go.ChangeShapes Go.WideShapes Go.ChangeAt Go.RowKit
set_option linter.unusedVariables false

theorem rzig_any (n : Int) (w : World) (h1 : -9223372036854775808 ≤ n) (h2 : n ≤ 9223372036854775807) :
    Calls Tryd.prog 12 #[.int .i64 n] w fun e w' => e = .returned (.int .u64 (zg n)) ∧ w' = w := by
  by_cases h : 0 ≤ n
  · go_enter Tryd.func12, Tryd.ntmps12
    go_wp2
    go_ret
    exact ⟨ret_int (by unfold zg; rw [if_pos h]), rfl⟩
  · have h' : n < 0 := by omega
    have e : 2 * -(n + 1) + 1 = zg n := by unfold zg; rw [if_neg h]; omega
    have E : Hid (2 * -(n + 1) + 1 = zg n) := e
    clear h e
    go_enter Tryd.func12, Tryd.ntmps12
    go_wp2
    go_ret
    exact ⟨ret_int E.out, rfl⟩
theorem rmix_any (h n : Int) (w : World) (g1 : 0 ≤ h) (g2 : h < 18446744073709551616) (h1 : -9223372036854775808 ≤ n) (h2 : n ≤ 9223372036854775807) :
    Calls Tryd.prog 23 #[.int .u64 h, .int .i64 n] w fun e w' => e = .returned (.int .u64 (mx h (zg n))) ∧ w' = w := by
  have b := zg_bd n h1 h2
  go_enter Tryd.func23, Tryd.ntmps23
  go_wp2_with (go_at_call 12; refine (rzig_any _ _ h1 h2).mono ?_; rintro e w' ⟨rfl, rfl⟩)
  go_ret
  exact ⟨ret_int (mx_eq_ref h (zg n) g1 g2 b.1 b.2), rfl⟩

theorem rzag_any (u : Int) (w : World) (h1 : 0 ≤ u) (h2 : u < 18446744073709551616) :
    Calls Tryd.prog 13 #[.int .u64 u] w fun e w' => e = .returned (.int .i64 (zgb u)) ∧ w' = w := by
  by_cases h : u % 2 = 0
  · go_enter Tryd.func13, Tryd.ntmps13
    go_wp2
    go_ret
    exact ⟨ret_int (by unfold zgb; rw [if_pos h]), rfl⟩
  · go_enter Tryd.func13, Tryd.ntmps13
    go_wp2
    go_ret
    exact ⟨ret_int (by unfold zgb; rw [if_neg h]), rfl⟩

theorem rword_yes (o a b : Int) (w : World) (h1 : 0 ≤ o) (h2 : o ≤ 255) (h3 : 0 ≤ a) (h4 : a ≤ 268435455) (h5 : 0 ≤ b) (h6 : b ≤ 268435455) :
    Calls Tryd.prog 19 #[.int .i64 o, .int .i64 a, .int .i64 b] w fun e w' =>
      e = .returned (.tuple #[.int .u64 ((o * 268435456 + a) * 268435456 + b), .int .i64 0]) ∧ w' = w := by
  go_enter Tryd.func19, Tryd.ntmps19
  go_wp2
  go_ret2
  exact ⟨rfl, rfl⟩
theorem rword_no (o a b : Int) (w : World) (o1 : -9223372036854775808 ≤ o) (o2 : o ≤ 9223372036854775807) (a1 : -9223372036854775808 ≤ a) (a2 : a ≤ 9223372036854775807)
    (b1 : -9223372036854775808 ≤ b) (b2 : b ≤ 9223372036854775807) (h : ¬ (0 ≤ o ∧ o ≤ 255 ∧ 0 ≤ a ∧ a ≤ 268435455 ∧ 0 ≤ b ∧ b ≤ 268435455)) :
    Calls Tryd.prog 19 #[.int .i64 o, .int .i64 a, .int .i64 b] w fun e w' =>
      e = .returned (.tuple #[.int .u64 0, .int .i64 12]) ∧ w' = w := by
  have H : Hid (¬ (0 ≤ o ∧ o ≤ 255 ∧ 0 ≤ a ∧ a ≤ 268435455 ∧ 0 ≤ b ∧ b ≤ 268435455)) := h
  clear h
  go_enter Tryd.func19, Tryd.ntmps19
  go_wp2
  all_goals first | (exfalso; have := H.out; omega) | (go_ret2; exact ⟨rfl, rfl⟩)
theorem ret_high {k l m : IntKind} {a b c d : Int} (h : a = b) : Ending.returned (.tuple #[.int k a, .int l c, .int m d]) = .returned (.tuple #[.int k b, .int l c, .int m d]) := by rw [h]
theorem rparts_any (u : Int) (w : World) (h1 : 0 ≤ u) (h2 : u < 18446744073709551616) :
    Calls Tryd.prog 21 #[.int .u64 u] w fun e w' =>
      e = .returned (.tuple #[.int .i64 (u / 72057594037927936), .int .i64 (u / 268435456 % 268435456), .int .i64 (u % 268435456)]) ∧ w' = w := by
  go_enter Tryd.func21, Tryd.ntmps21
  go_wp2
  go_ret3
  exact ⟨ret_high (by omega), rfl⟩

end Go.Proofs.YtbpjpdnkebdanaaDoor
