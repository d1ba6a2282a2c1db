/- Sets with a number more, with one less; the next number. -/
import Derived.Test.YtmnmjmhmdnjdlaaDoorSetD
namespace Go.Proofs.YtmnmjmhmdnjdlaaDoor
open Go.ChangeShapes Go.WideShapes Go.ChangeAt Go.RowKit
set_option linter.unusedVariables false

theorem with_no (x : Nat) (n : Int) (w : World) (hx : x < top64) (h : n < 0 ∨ 63 < n) :
    Calls Tryd.prog 19 #[sv x, .int .i64 n] w fun e w' => e = .returned (.tuple #[sv 0, .int .i64 1]) ∧ Below w.heap.size w w' := by
  go_enter Tryd.func19, Tryd.ntmps19
  go_wp2_with fail
  refine (right_no n _ h).mono ?_
  rintro e w1 ⟨rfl, rfl⟩
  go_wp2
  exact bodyPost_ret (v := .tuple #[sv 0, .int .i64 1]) (by simp [results, Tryd.results19, go_sem]) rfl ⟨rfl, bal (bal (b0 _) _) _⟩
theorem without_no (x : Nat) (n : Int) (w : World) (hx : x < top64) (h : n < 0 ∨ 63 < n) :
    Calls Tryd.prog 21 #[sv x, .int .i64 n] w fun e w' => e = .returned (.tuple #[sv 0, .int .i64 1]) ∧ Below w.heap.size w w' := by
  go_enter Tryd.func21, Tryd.ntmps21
  go_wp2_with fail
  refine (right_no n _ h).mono ?_
  rintro e w1 ⟨rfl, rfl⟩
  go_wp2
  exact bodyPost_ret (v := .tuple #[sv 0, .int .i64 1]) (by simp [results, Tryd.results21, go_sem]) rfl ⟨rfl, bal (bal (b0 _) _) _⟩

theorem other_cell {w : World} {b1 b2 : Nat} (h : b1 ≠ b2) (v : Value) : (w.setCell ⟨b2, 0, none⟩ v).cell? ⟨b1, 0, none⟩ = w.cell? ⟨b1, 0, none⟩ :=
  World.cell?_setCell_other _ _ _ _ (fun e => h (by injection e with e; exact e.symm))
/-- What a call finds in a box that it has made, and in one for its result. -/
theorem two_boxes (w : World) (x : Nat) (t : TypeId) (w1 : World) (h : w1 = (w.alloc (.cells #[.int .u64 (x : Nat)] t)).alloc (.cells #[.int .u64 0] t)) (b1 b2 : Nat) (h1 : b1 = w.heap.size) (h2 : b2 = w.heap.size + 1) :
    w1.cell? ⟨b1, 0, none⟩ = some (.int .u64 (x : Nat)) ∧ w1.cell? ⟨b2, 0, none⟩ = some (.int .u64 0) ∧ w1.frozen? ⟨b2, 0, none⟩ = false ∧ b1 < w1.heap.size ∧ b2 < w1.heap.size ∧ w.heap.size ≤ b2 ∧ b1 ≠ b2 ∧ Below w.heap.size w w1 := by
  subst h h1 h2
  refine ⟨?_, ?_, ?_, ?_, ?_, by omega, by omega, bal (bal (b0 _) _) _⟩
  · rw [Below.cell (bal (b0 _) _) (by simp)]; simp
  · simp
  · simp
  · simp; omega
  · simp

theorem with_yes (x n : Nat) (w : World) (hx : x < top64) (h : n < 64) :
    Calls Tryd.prog 19 #[sv x, .int .i64 n] w fun e w' => e = .returned (.tuple #[sv (x ||| bt n), .int .i64 0]) ∧ Below w.heap.size w w' := by
  have hu : ∀ w, Calls Tryd.prog 22 #[sv x, sv (bt n)] w fun e w' => e = .returned (sv (x ||| bt n)) ∧ Below w.heap.size w w' := fun w => union_c x (bt n) w hx (bt_lt h)
  obtain ⟨w1, hw1⟩ : ∃ w1, w1 = (w.alloc (.cells #[.int .u64 (x : Nat)] 27)).alloc (.cells #[.int .u64 0] 27) := ⟨_, rfl⟩
  obtain ⟨b1, hb1⟩ : ∃ b, b = w.heap.size := ⟨_, rfl⟩
  obtain ⟨b2, hb2⟩ : ∃ b, b = w.heap.size + 1 := ⟨_, rfl⟩
  obtain ⟨ky, k2, kf, hl1, hl2, hle, hne, B1'⟩ := two_boxes w x _ w1 hw1 b1 b2 hb1 hb2
  have B1 : Hid (Below w.heap.size w w1) := B1'
  have HB1 : Hid (b1 = w.heap.size) := hb1
  have HB2 : Hid (b2 = w.heap.size + 1) := hb2
  generalize x ||| bt n = z at hu
  clear hb1 hb2 B1'
  go_enter Tryd.func19, Tryd.ntmps19
  go_wp2_with fail
  rw [← hw1, ← HB2.out, ← HB1.out]
  clear hw1 HB1 HB2
  refine (right_yes n _ (by omega) (by omega)).mono ?_
  rintro e w2 ⟨rfl, rfl⟩
  go_wp2_with fail
  go_region_held3 (fun wx => wx.cell? ⟨b1, 0, none⟩ = some (.int .u64 (x : Nat))) (first | (with_reducible exact ky) | (with_reducible exact ks) | (with_reducible exact kt) | (with_reducible exact ku) | go_keep) (first | (go_at_call 32; refine (single_c n _ h).mono ?_; rintro e w3 ⟨rfl, hb3⟩; have ks := (hb3.cell (p := ⟨b1, 0, none⟩) hl1).trans ky) | (go_at_call 22; refine (hu _).mono ?_; rintro e w4 ⟨rfl, hb4⟩; have kt := (hb4.cell (p := ⟨b1, 0, none⟩) (Nat.lt_of_lt_of_le hl1 hb3.size)).trans ks; have kg := (hb4.frozen (p := ⟨b2, 0, none⟩) (Nat.lt_of_lt_of_le hl2 hb3.size)).trans ((hb3.frozen (p := ⟨b2, 0, none⟩) hl2).trans kf); have kc := (hb4.cell (p := ⟨b2, 0, none⟩) (Nat.lt_of_lt_of_le hl2 hb3.size)).trans ((hb3.cell (p := ⟨b2, 0, none⟩) hl2).trans k2); have ku : (w4.setCell ⟨b2, 0, none⟩ (.int .u64 (z : Nat))).cell? ⟨b1, 0, none⟩ = some (.int .u64 (x : Nat)) := (other_cell hne _).trans kt))
  have kr : (w4.setCell ⟨b2, 0, none⟩ (.int .u64 (z : Nat))).cell? ⟨b2, 0, none⟩ = some (.int .u64 (z : Nat)) := World.cell?_setCell_same _ _ _ kc
  have RR := (bjoin (bjoin B1.out.drew hb3) hb4).setCell (p := ⟨b2, 0, none⟩) hle (.int .u64 (z : Nat))
  clear B1 ky k2 kf ks kt kg ku
  go_wp2
  exact bodyPost_ret (v := .tuple #[sv z, .int .i64 0]) (by simp [results, Tryd.results19, go_sem, kr]) rfl ⟨rfl, RR⟩
theorem without_yes (x n : Nat) (w : World) (hx : x < top64) (h : n < 64) :
    Calls Tryd.prog 21 #[sv x, .int .i64 n] w fun e w' => e = .returned (.tuple #[sv (mns x (bt n)), .int .i64 0]) ∧ Below w.heap.size w w' := by
  have hu : ∀ w, Calls Tryd.prog 25 #[sv x, sv (bt n)] w fun e w' => e = .returned (sv (mns x (bt n))) ∧ Below w.heap.size w w' := fun w => minus_c x (bt n) w hx (bt_lt h)
  obtain ⟨w1, hw1⟩ : ∃ w1, w1 = (w.alloc (.cells #[.int .u64 (x : Nat)] 27)).alloc (.cells #[.int .u64 0] 27) := ⟨_, rfl⟩
  obtain ⟨b1, hb1⟩ : ∃ b, b = w.heap.size := ⟨_, rfl⟩
  obtain ⟨b2, hb2⟩ : ∃ b, b = w.heap.size + 1 := ⟨_, rfl⟩
  obtain ⟨ky, k2, kf, hl1, hl2, hle, hne, B1'⟩ := two_boxes w x _ w1 hw1 b1 b2 hb1 hb2
  have B1 : Hid (Below w.heap.size w w1) := B1'
  have HB1 : Hid (b1 = w.heap.size) := hb1
  have HB2 : Hid (b2 = w.heap.size + 1) := hb2
  generalize mns x (bt n) = z at hu
  clear hb1 hb2 B1'
  go_enter Tryd.func21, Tryd.ntmps21
  go_wp2_with fail
  rw [← hw1, ← HB2.out, ← HB1.out]
  clear hw1 HB1 HB2
  refine (right_yes n _ (by omega) (by omega)).mono ?_
  rintro e w2 ⟨rfl, rfl⟩
  go_wp2_with fail
  go_region_held3 (fun wx => wx.cell? ⟨b1, 0, none⟩ = some (.int .u64 (x : Nat))) (first | (with_reducible exact ky) | (with_reducible exact ks) | (with_reducible exact kt) | (with_reducible exact ku) | go_keep) (first | (go_at_call 32; refine (single_c n _ h).mono ?_; rintro e w3 ⟨rfl, hb3⟩; have ks := (hb3.cell (p := ⟨b1, 0, none⟩) hl1).trans ky) | (go_at_call 25; refine (hu _).mono ?_; rintro e w4 ⟨rfl, hb4⟩; have kt := (hb4.cell (p := ⟨b1, 0, none⟩) (Nat.lt_of_lt_of_le hl1 hb3.size)).trans ks; have kg := (hb4.frozen (p := ⟨b2, 0, none⟩) (Nat.lt_of_lt_of_le hl2 hb3.size)).trans ((hb3.frozen (p := ⟨b2, 0, none⟩) hl2).trans kf); have kc := (hb4.cell (p := ⟨b2, 0, none⟩) (Nat.lt_of_lt_of_le hl2 hb3.size)).trans ((hb3.cell (p := ⟨b2, 0, none⟩) hl2).trans k2); have ku : (w4.setCell ⟨b2, 0, none⟩ (.int .u64 (z : Nat))).cell? ⟨b1, 0, none⟩ = some (.int .u64 (x : Nat)) := (other_cell hne _).trans kt))
  have kr : (w4.setCell ⟨b2, 0, none⟩ (.int .u64 (z : Nat))).cell? ⟨b2, 0, none⟩ = some (.int .u64 (z : Nat)) := World.cell?_setCell_same _ _ _ kc
  have RR := (bjoin (bjoin B1.out.drew hb3) hb4).setCell (p := ⟨b2, 0, none⟩) hle (.int .u64 (z : Nat))
  clear B1 ky k2 kf ks kt kg ku
  go_wp2
  exact bodyPost_ret (v := .tuple #[sv z, .int .i64 0]) (by simp [results, Tryd.results21, go_sem, kr]) rfl ⟨rfl, RR⟩
end Go.Proofs.YtmnmjmhmdnjdlaaDoor
