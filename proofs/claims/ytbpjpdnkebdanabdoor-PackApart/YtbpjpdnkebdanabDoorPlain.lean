/- What the functions of package pack that make no memory answer, and their twins in the document's own arithmetic. -/
import Derived.Test.YtbpjpdnkebdanabDoorBase
namespace Go.Proofs.YtbpjpdnkebdanabDoor
open Go.ChangeShapes Go.WideShapes Go.ChangeAt Go.RowKit
set_option linter.unusedVariables false

theorem ret_int {k : IntKind} {a b : Int} (h : a = b) : Ending.returned (.int k a) = .returned (.int k b) := by rw [h]
theorem ret_bool {a b : Bool} (h : a = b) : Ending.returned (.bool a) = .returned (.bool b) := by rw [h]

theorem zig_any (n : Int) (w : World) (h1 : -9223372036854775808 ≤ n) (h2 : n ≤ 9223372036854775807) :
    Calls Tryd.prog 12 #[.int .i64 n] w fun e w' => e = .returned (.int .u64 (zg n)) ∧ w' = w := by
  go_enter Tryd.func12, Tryd.ntmps12
  go_wp2
  go_ret
  exact ⟨ret_int (zig_eq n h1 h2), rfl⟩
theorem zag_any (u : Int) (w : World) (h1 : 0 ≤ u) (h2 : u < 18446744073709551616) :
    Calls Tryd.prog 13 #[.int .u64 u] w fun e w' => e = .returned (.int .i64 (zgb u)) ∧ w' = w := by
  go_enter Tryd.func13, Tryd.ntmps13
  go_wp2
  go_ret
  exact ⟨ret_int (zag_eq u h1 h2), rfl⟩
theorem mix_any (h n : Int) (w : World) (g1 : 0 ≤ h) (g2 : h < 18446744073709551616) (h1 : -9223372036854775808 ≤ n) (h2 : n ≤ 9223372036854775807) :
    Calls Tryd.prog 7 #[.int .u64 h, .int .i64 n] w fun e w' => e = .returned (.int .u64 (mx h (zg n))) ∧ w' = w := by
  have b := zg_bd n h1 h2
  go_enter Tryd.func7, Tryd.ntmps7
  go_wp2_with (go_at_call 12; refine (zig_any _ _ h1 h2).mono ?_; rintro e w' ⟨rfl, rfl⟩)
  go_ret
  exact ⟨ret_int (mx_eq h (zg n) g1 g2 b.1 b.2), rfl⟩

theorem fits_yes0 (n : Int) (w : World) (hT : Tab w) (h1 : 0 ≤ n) (h2 : n ≤ 255) :
    Calls Tryd.prog 14 #[.int .i64 0, .int .i64 n] w fun e w' => e = .returned (.bool true) ∧ w' = w := by
  have hc := hT.2.1
  go_enter Tryd.func14, Tryd.ntmps14
  go_wp2
  go_ret
  exact ⟨ret_bool (by simp; try omega), rfl⟩
theorem fits_yes1 (n : Int) (w : World) (hT : Tab w) (h1 : 0 ≤ n) (h2 : n ≤ 268435455) :
    Calls Tryd.prog 14 #[.int .i64 1, .int .i64 n] w fun e w' => e = .returned (.bool true) ∧ w' = w := by
  have hc := hT.2.2.2.1
  go_enter Tryd.func14, Tryd.ntmps14
  go_wp2
  go_ret
  exact ⟨ret_bool (by simp; try omega), rfl⟩
theorem fits_yes2 (n : Int) (w : World) (hT : Tab w) (h1 : 0 ≤ n) (h2 : n ≤ 268435455) :
    Calls Tryd.prog 14 #[.int .i64 2, .int .i64 n] w fun e w' => e = .returned (.bool true) ∧ w' = w := by
  have hc := hT.2.2.2.2.2.1
  go_enter Tryd.func14, Tryd.ntmps14
  go_wp2
  go_ret
  exact ⟨ret_bool (by simp; try omega), rfl⟩
theorem fits_no0 (n : Int) (w : World) (hT : Tab w) (h1 : -9223372036854775808 ≤ n) (h2 : n ≤ 9223372036854775807) (h3 : n < 0 ∨ 255 < n) :
    Calls Tryd.prog 14 #[.int .i64 0, .int .i64 n] w fun e w' => e = .returned (.bool false) ∧ w' = w := by
  have hc := hT.2.1
  go_enter Tryd.func14, Tryd.ntmps14
  go_wp2
  go_ret
  exact ⟨ret_bool (by rw [IntKind.wrap_u64]; simp; omega), rfl⟩
theorem fits_no1 (n : Int) (w : World) (hT : Tab w) (h1 : -9223372036854775808 ≤ n) (h2 : n ≤ 9223372036854775807) (h3 : n < 0 ∨ 268435455 < n) :
    Calls Tryd.prog 14 #[.int .i64 1, .int .i64 n] w fun e w' => e = .returned (.bool false) ∧ w' = w := by
  have hc := hT.2.2.2.1
  go_enter Tryd.func14, Tryd.ntmps14
  go_wp2
  go_ret
  exact ⟨ret_bool (by rw [IntKind.wrap_u64]; simp; omega), rfl⟩
theorem fits_no2 (n : Int) (w : World) (hT : Tab w) (h1 : -9223372036854775808 ≤ n) (h2 : n ≤ 9223372036854775807) (h3 : n < 0 ∨ 268435455 < n) :
    Calls Tryd.prog 14 #[.int .i64 2, .int .i64 n] w fun e w' => e = .returned (.bool false) ∧ w' = w := by
  have hc := hT.2.2.2.2.2.1
  go_enter Tryd.func14, Tryd.ntmps14
  go_wp2
  go_ret
  exact ⟨ret_bool (by rw [IntKind.wrap_u64]; simp; omega), rfl⟩
theorem lay0 (n : Int) (w : World) (hT : Tab w) (h1 : 0 ≤ n) (h2 : n ≤ 255) :
    Calls Tryd.prog 15 #[.int .i64 0, .int .i64 n] w fun e w' => e = .returned (.int .u64 (n * 72057594037927936)) ∧ w' = w := by
  have hc := hT.1
  go_enter Tryd.func15, Tryd.ntmps15
  go_wp2
  go_ret
  exact ⟨rfl, rfl⟩
theorem lay1 (n : Int) (w : World) (hT : Tab w) (h1 : 0 ≤ n) (h2 : n ≤ 268435455) :
    Calls Tryd.prog 15 #[.int .i64 1, .int .i64 n] w fun e w' => e = .returned (.int .u64 (n * 268435456)) ∧ w' = w := by
  have hc := hT.2.2.1
  go_enter Tryd.func15, Tryd.ntmps15
  go_wp2
  go_ret
  exact ⟨rfl, rfl⟩
theorem lay2 (n : Int) (w : World) (hT : Tab w) (h1 : 0 ≤ n) (h2 : n ≤ 268435455) :
    Calls Tryd.prog 15 #[.int .i64 2, .int .i64 n] w fun e w' => e = .returned (.int .u64 n) ∧ w' = w := by
  have hc := hT.2.2.2.2.1
  go_enter Tryd.func15, Tryd.ntmps15
  go_wp2
  go_ret
  exact ⟨ret_int (by simp), rfl⟩
theorem part0 (u : Int) (w : World) (hT : Tab w) (h1 : 0 ≤ u) (h2 : u < 18446744073709551616) :
    Calls Tryd.prog 16 #[.int .i64 0, .int .u64 u] w fun e w' => e = .returned (.int .i64 (u / 72057594037927936)) ∧ Below w.heap.size w w' := by
  have hc := hT.1
  have hd := hT.2.1
  go_enter Tryd.func16, Tryd.ntmps16
  go_wp2
  go_quiet (fail)
  go_wp2
  go_ret
  exact ⟨ret_int (part0_eq u h1 h2), below_drewN _ _⟩
theorem part1 (u : Int) (w : World) (hT : Tab w) (h1 : 0 ≤ u) (h2 : u < 18446744073709551616) :
    Calls Tryd.prog 16 #[.int .i64 1, .int .u64 u] w fun e w' => e = .returned (.int .i64 (u / 268435456 % 268435456)) ∧ Below w.heap.size w w' := by
  have hc := hT.2.2.1
  have hd := hT.2.2.2.1
  go_enter Tryd.func16, Tryd.ntmps16
  go_wp2
  go_quiet (fail)
  go_wp2
  go_ret
  exact ⟨ret_int (part1_eq u h1 h2), below_drewN _ _⟩
theorem part2 (u : Int) (w : World) (hT : Tab w) (h1 : 0 ≤ u) (h2 : u < 18446744073709551616) :
    Calls Tryd.prog 16 #[.int .i64 2, .int .u64 u] w fun e w' => e = .returned (.int .i64 (u % 268435456)) ∧ Below w.heap.size w w' := by
  have hc := hT.2.2.2.2.1
  have hd := hT.2.2.2.2.2.1
  go_enter Tryd.func16, Tryd.ntmps16
  go_wp2
  go_quiet (fail)
  go_wp2
  go_ret
  exact ⟨ret_int (by simpa using part2_eq u h1 h2), below_drewN _ _⟩

end Go.Proofs.YtbpjpdnkebdanabDoor
