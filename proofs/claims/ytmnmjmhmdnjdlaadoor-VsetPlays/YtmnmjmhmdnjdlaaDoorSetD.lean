/- Sets asked for a number, with a number more and with one less. -/
import Derived.Test.YtmnmjmhmdnjdlaaDoorSetC
import Derived.Deep.RegionHeld3
namespace Go.Proofs.YtmnmjmhmdnjdlaaDoor
open Go.ChangeShapes Go.WideShapes Go.ChangeAt Go.RowKit
set_option linter.unusedVariables false

theorem box_cell (w : World) (x : Int) (t : TypeId) : (w.alloc (.cells #[.int .u64 x] t)).cell? ⟨w.heap.size, 0, none⟩ = some (.int .u64 x) := by simp
theorem bdr {a w : World} (h : Below a.heap.size a w) (n : Nat) : Below a.heap.size a (w.drewN n) := ⟨h.os, h.tape, h.output, h.size, h.block⟩
theorem has_no (x : Nat) (n : Int) (w : World) (hx : x < top64) (h : n < 0 ∨ 63 < n) :
    Calls Tryd.prog 27 #[sv x, .int .i64 n] w fun e w' => e = .returned (.bool false) ∧ Below w.heap.size w w' := by
  go_enter Tryd.func27, Tryd.ntmps27
  go_wp2_with fail
  go_quiet ((go_at_call 31; exact Calls.quiet_of_same (right_no n _ h)))
  go_wp2
  go_ret
  exact ⟨rfl, bdr (bal (b0 _) _) _⟩
/-- Has, where the meet y with the number's own set is told: y is nought or not. -/
theorem has_walk (x n y : Nat) (w : World) (hx : x < top64) (h : n < 64) (hy : x &&& bt n = y) (bv : Bool) (hb : if bv then ¬ y = 0 else y = 0) :
    Calls Tryd.prog 27 #[sv x, .int .i64 n] w fun e w' => e = .returned (.bool bv) ∧ Below w.heap.size w w' := by
  have hm : ∀ w, Calls Tryd.prog 24 #[sv x, sv (bt n)] w fun e w' => e = .returned (sv y) ∧ Below w.heap.size w w' := fun w => by rw [← hy]; exact meet_c x (bt n) w hx (bt_lt h)
  obtain ⟨w1, hw1⟩ : ∃ w1, w1 = w.alloc (.cells #[.int .u64 (x : Nat)] 27) := ⟨_, rfl⟩
  obtain ⟨b0, hb0⟩ : ∃ b0, b0 = w.heap.size := ⟨_, rfl⟩
  have ky : w1.cell? ⟨b0, 0, none⟩ = some (.int .u64 (x : Nat)) := by rw [hw1, hb0]; exact box_cell _ _ _
  have hlt : b0 < w1.heap.size := by rw [hw1, hb0]; simp
  have B1 : Hid (Below w.heap.size w w1) := by rw [hw1]; exact bal (Below.refl _ _) _
  have HB0 : Hid (b0 = w.heap.size) := hb0
  clear hb0 hy
  cases bv
  all_goals
    simp only [Bool.false_eq_true, if_true, if_false] at hb
    first | subst hb | skip
    go_enter Tryd.func27, Tryd.ntmps27
    go_wp2_with fail
    rw [← hw1, ← HB0.out]
    clear hw1 HB0
    go_region_held3 (fun wx => wx.cell? ⟨b0, 0, none⟩ = some (.int .u64 (x : Nat))) (first | (with_reducible exact ky) | (with_reducible exact kz) | (with_reducible exact ks) | go_keep) (first | (go_at_call 31; refine (right_yes (n : Int) _ (by omega) (by omega)).mono ?_; rintro e w2 ⟨rfl, rfl⟩; have kz := ky) | (go_at_call 32; refine (single_c n _ h).mono ?_; rintro e w3 ⟨rfl, hb3⟩; have ks := (hb3.cell (p := ⟨b0, 0, none⟩) hlt).trans ky) | (go_at_call 24; refine (hm _).mono ?_; rintro e w4 ⟨rfl, hb4⟩; have kz := (hb4.cell (p := ⟨b0, 0, none⟩) (Nat.lt_of_lt_of_le hlt hb3.size)).trans ks))
    go_wp2
    go_ret
    exact ⟨rfl, bjoin (bjoin B1.out.drew hb3) hb4⟩
theorem has_yes (x n : Nat) (w : World) (hx : x < top64) (h : n < 64) :
    Calls Tryd.prog 27 #[sv x, .int .i64 n] w fun e w' => e = .returned (.bool (x.testBit n)) ∧ Below w.heap.size w w' := by
  have e : x &&& bt n = if x.testBit n then bt n else 0 := and_one x n
  refine has_walk x n _ w hx h e _ ?_
  cases x.testBit n
  · simp
  · simp [bt, Nat.pow_eq_zero]
end Go.Proofs.YtmnmjmhmdnjdlaaDoor
