/- The next number of a set. -/
import Derived.Test.YtmpkhbblakfglaaDoorSetE
import Derived.Deep.CutBlock
import Derived.Deep.DeepCutAuto
namespace Go.Proofs.YtmpkhbblakfglaaDoor
open Go.ChangeShapes Go.WideShapes Go.ChangeAt Go.RowKit
set_option linter.unusedVariables false

/-- The first number of z, below 0 where there is none. -/
def fst9 (z : Nat) : Int := if z = 0 then -1 else (Lib.ctz 64 z : Nat)

/-- A new box of nought stays, whatever is called behind it. -/
theorem new_box {w w' : World} {t : TypeId} (h : Below (w.alloc (.cells #[.int .u64 0] t)).heap.size (w.alloc (.cells #[.int .u64 0] t)) w') :
    w'.cell? ⟨w.heap.size, 0, none⟩ = some (.int .u64 0) ∧ w'.frozen? ⟨w.heap.size, 0, none⟩ = false ∧ w.heap.size < w'.heap.size := by
  have hl : w.heap.size < (w.alloc (.cells #[.int .u64 0] t)).heap.size := by simp
  exact ⟨(h.cell (p := ⟨w.heap.size, 0, none⟩) hl).trans (by simp), (h.frozen (p := ⟨w.heap.size, 0, none⟩) hl).trans (by simp), Nat.lt_of_lt_of_le hl h.size⟩
theorem box_keep {w w' : World} {o : Obj} {b : Nat} {v : Value} (h : Below (w.alloc o).heap.size (w.alloc o) w') (hb : b < w.heap.size) (hc : w.cell? ⟨b, 0, none⟩ = some v) : w'.cell? ⟨b, 0, none⟩ = some v :=
  (h.cell (p := ⟨b, 0, none⟩) (Nat.lt_of_lt_of_le hb (bal (b0 w) o).size)).trans (((bal (b0 w) o).cell (p := ⟨b, 0, none⟩) hb).trans hc)
set_option maxHeartbeats 4000000 in
theorem next_walk (x z : Nat) (n : Int) (w : World) (hx : x < top64) (h1 : -9223372036854775808 ≤ n) (h2 : n ≤ 9223372036854775807) (hz : mns x (blw n) = z) (hT : Tz w) :
    Calls Tryd.prog 14 #[sv x, .int .i64 n] w fun e w' => e = .returned (.int .i64 (fst9 z)) ∧ Below w.heap.size w w' := by
  have hzl : z < top64 := by rw [← hz]; exact mns_lt hx
  have hm : ∀ w, Calls Tryd.prog 36 #[sv x, sv (blw n)] w fun e w' => e = .returned (sv z) ∧ Below w.heap.size w w' := fun w => by rw [← hz]; exact minus_c x (blw n) w hx (blw_lt n)
  have hbl : ∀ w, Calls Tryd.prog 37 #[.int .i64 n] w fun e w' => e = .returned (sv (blw n)) ∧ Below w.heap.size w w' := fun w => by
    by_cases h : n < 0
    · exact below_neg n w h
    · obtain ⟨k, rfl⟩ := Int.eq_ofNat_of_zero_le (show 0 ≤ n by omega)
      exact below_pos k w (by omega)
  obtain ⟨w1, hw1⟩ : ∃ w1, w1 = w.alloc (.cells #[.int .u64 (x : Nat)] 42) := ⟨_, rfl⟩
  obtain ⟨b1, hb1⟩ : ∃ b0, b0 = w.heap.size := ⟨_, rfl⟩
  have ky : w1.cell? ⟨b1, 0, none⟩ = some (.int .u64 (x : Nat)) := by rw [hw1, hb1]; exact box_cell _ _ _
  have hlt : b1 < w1.heap.size := by rw [hw1, hb1]; simp
  have B1 : Hid (Below w.heap.size w w1) := by rw [hw1]; exact bal (Below.refl _ _) _
  have HB1 : Hid (b1 = w.heap.size) := hb1
  generalize blw n = y at hm hbl
  clear hz hb1
  go_enter Tryd.func14, Tryd.ntmps14
  go_upto_region 1 with fail
  rw [← hw1, ← HB1.out]
  clear hw1 HB1
  go_cut [5] (fun v5 wx => ∃ b5, v5 = .pointer (some ⟨b5, 0, none⟩) ∧ wx.cell? ⟨b5, 0, none⟩ = some (.int .u64 (z : Nat)) ∧ Below w.heap.size w wx)
  case first =>
    have hlt2 : b1 < (w1.alloc (.cells #[.int .u64 0] 42)).heap.size := Nat.lt_of_lt_of_le hlt (bal (b0 w1) _).size
    have ky2 : (w1.alloc (.cells #[.int .u64 0] 42)).cell? ⟨b1, 0, none⟩ = some (.int .u64 (x : Nat)) := ((bal (b0 w1) _).cell (p := ⟨b1, 0, none⟩) hlt).trans ky
    go_wp2_with fail
    have ne1 := World.new_ne w1 _ ky
    go_region_held3 (fun wx => wx.cell? ⟨b1, 0, none⟩ = some (.int .u64 (x : Nat))) (first | (with_reducible exact ky) | (with_reducible exact ky2) | (with_reducible exact ks) | (with_reducible exact kt) | (with_reducible exact (ku _)) | go_keep) (first | (go_at_call 37; refine Calls.mono (hbl w1.drew) ?_; rintro e w3 ⟨rfl, hb3⟩; have ks := (hb3.cell (p := ⟨b1, 0, none⟩) hlt).trans ky; have BB := bjoin B1.out.drew hb3; have kl := Nat.lt_of_lt_of_le hlt hb3.size; have ne3 := World.new_ne w3 _ ks) | (go_at_call 37; refine Calls.mono (hbl (w1.alloc (.cells #[.int .u64 0] 42)).drew) ?_; rintro e w3 ⟨rfl, hb3⟩; have ks := (hb3.cell (p := ⟨b1, 0, none⟩) hlt2).trans ky2; obtain ⟨kA, kF, kL⟩ := new_box (w := w1) (t := 42) (w' := w3) ⟨hb3.os, hb3.tape, hb3.output, hb3.size, hb3.block⟩; have BB := bjoin (bal B1.out _).drew hb3; have kl := Nat.lt_trans hlt kL) | (go_at_call 36; refine Calls.mono (hm w3) ?_; rintro e w4 ⟨rfl, hb4⟩; have kA4 := (hb4.cell (p := ⟨w1.heap.size, 0, none⟩) kL).trans kA; have kF4 := (hb4.frozen (p := ⟨w1.heap.size, 0, none⟩) kL).trans kF; have BC := bjoin BB hb4; have kt := (hb4.cell (p := ⟨b1, 0, none⟩) kl).trans ks; have ku := fun v => (other_cell (w := w4) (Nat.ne_of_lt hlt) v).trans kt) | (go_at_call 36; refine Calls.mono (hm w3) ?_; rintro e w4 ⟨rfl, hb4⟩; have BC := bjoin BB hb4; have kt := (hb4.cell (p := ⟨b1, 0, none⟩) kl).trans ks; have ne4 := World.new_ne w4 _ kt) | (go_at_call 36; refine Calls.mono (hm (w3.alloc (.cells #[.int .u64 0] 42))) ?_; rintro e w4 ⟨rfl, hb4⟩; obtain ⟨kA4, kF4, kL4⟩ := new_box hb4; have BC := bjoin (bal BB _) hb4; have kt := box_keep hb4 kl ks; have ku := fun v => (other_cell (w := w4) (Nat.ne_of_lt kl) v).trans kt))
    · go_wp2
      go_meet
      exact ⟨_, rfl, box_cell w4 _ _, bal BC _⟩
    · go_wp2
      go_meet
      exact ⟨_, rfl, World.cell?_setCell_same _ _ _ kA4, BC.setCell (p := ⟨w3.heap.size, 0, none⟩) BB.size _⟩
    · go_wp2
      go_meet
      exact ⟨_, rfl, World.cell?_setCell_same _ _ _ kA4, BC.setCell (p := ⟨w1.heap.size, 0, none⟩) B1.out.size _⟩
  case rest =>
  clear ky hlt B1 hm hbl
  rename_i wx
  obtain ⟨b5, rfl, hc, hB⟩ := hcut
  have hT2 := hT.below hB
  by_cases hz0 : z = 0
  · subst hz0
    go_wp2_with fail
    go_ret
    exact ⟨rfl, hB⟩
  · go_wp2_with fail
    refine (tz_c z _ hzl hz0 hT2).mono ?_
    rintro e w6 ⟨rfl, rfl⟩
    go_wp2
    go_ret
    exact ⟨ret_int (by unfold fst9; rw [if_neg hz0]), hB⟩
end Go.Proofs.YtmpkhbblakfglaaDoor
