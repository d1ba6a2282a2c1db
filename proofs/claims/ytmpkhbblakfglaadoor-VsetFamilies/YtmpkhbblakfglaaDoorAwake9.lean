/- The first calls of each law of package vset answer as they must. -/
import Derived.Test.YtmpkhbblakfglaaDoorOfL
namespace Go.Proofs.YtmpkhbblakfglaaDoor
open Go.ChangeShapes Go.WideShapes Go.ChangeAt Go.RowKit Go.Maps
set_option linter.unusedVariables false

def few : ByteArray := ⟨#[102, 101, 119]⟩
theorem few_name : isNm few := by
  refine ⟨by decide, by decide, fun _ => ⟨by show 97 ≤ (102 : UInt8).toNat; decide, by show (102 : UInt8).toNat ≤ 122; decide⟩, fun i h hi => ?_, ?_⟩
  · have h3 : i < 3 := h
    match i, h3, hi with
    | 1, _, _ => exact .inl ⟨by show 97 ≤ (101 : UInt8).toNat; decide, by show (101 : UInt8).toNat ≤ 122; decide⟩
    | 2, _, _ => exact .inl ⟨by show 97 ≤ (119 : UInt8).toNat; decide, by show (119 : UInt8).toNat ≤ 122; decide⟩
  · rintro ⟨j, hj, e⟩
    have key : ∀ j, j < 27 → few.data ≠ (word9 j).data := by decide
    exact key j hj (congrArg ByteArray.data e)
theorem few_size : few.size ≤ maxLen := by unfold maxLen; decide
/-- The numbers of the first call. -/
def nums4 (j : Nat) : Int := match j with | 0 => 5 | 1 => 0 | 2 => 63 | _ => 5
theorem nums4_set (s : Nat) (er : Int) (h : OfOut nums4 4 s er) : s = 9223372036854775841 ∧ er = 0 := by
  rcases h with ⟨h1, _, h2⟩ | ⟨_, _, j, hj, h2⟩
  · exact ⟨by rw [h2]; decide +kernel, h1⟩
  · match j, hj with
    | 0, _ => simp [nums4] at h2
    | 1, _ => simp [nums4] at h2
    | 2, _ => simp [nums4] at h2
    | 3, _ => simp [nums4] at h2
theorem al0 : al 9223372036854775841 = [0, 5, 63] := by decide +kernel
theorem nx1 : nx 9223372036854775841 1 = 5 := by decide +kernel

theorem ints4 (w : World) : Ints (w.alloc (.cells #[.int .i64 5, .int .i64 0, .int .i64 63, .int .i64 5] 3)) (some ⟨w.heap.size, 0, none⟩) 4 nums4 := fun j hj => by
  refine ⟨_, 0, rfl, by simp, ?_, ?_⟩
  · match j, hj with
    | 0, _ => simp [nums4]
    | 1, _ => simp [nums4]
    | 2, _ => simp [nums4]
    | 3, _ => simp [nums4]
  · match j, hj with
    | 0, _ => decide
    | 1, _ => decide
    | 2, _ => decide
    | 3, _ => decide
def nums3 (j : Nat) : Int := ([0, 5, 63].getD j 0 : Nat)
theorem ints3 (w : World) : Ints (w.alloc (.cells #[.int .i64 0, .int .i64 5, .int .i64 63] 3)) (some ⟨w.heap.size, 0, none⟩) 3 nums3 := fun j hj => by
  refine ⟨_, 0, rfl, by simp, ?_, ?_⟩
  · match j, hj with
    | 0, _ => simp [nums3]
    | 1, _ => simp [nums3]
    | 2, _ => simp [nums3]
  · match j, hj with
    | 0, _ => decide
    | 1, _ => decide
    | 2, _ => decide
set_option maxHeartbeats 4000000 in
set_option maxRecDepth 100000 in
theorem awake_c (w : World) (hT : Tz w) (hW : Wd w) :
    Calls Tryd.prog 4 #[] w fun e w' => e = .returned (.bool true) ∧ Below w.heap.size w w' := by
  have hof := of_c _ _ 4 4 nums4 (ints4 w) (by unfold maxLen; omega)
  have B1 : Below w.heap.size w (w.alloc (.cells #[.int .i64 5, .int .i64 0, .int .i64 63, .int .i64 5] 3)) := bal (b0 _) _
  go_enter Tryd.func4, Tryd.ntmps4
  go_wp2_with fail
  refine hof.mono ?_
  rintro e w2 ⟨x, er, rfl, hO, hb2⟩
  obtain ⟨rfl, rfl⟩ := nums4_set x er hO
  have B2 := bjoin B1 hb2
  have T2 : TzL w2 z9 := ⟨hT.below B2, rfl⟩
  have W2 : WdL w2 z9 := ⟨hW.below B2, rfl⟩
  have s2 : Step (fun k => k ≠ 0) w z9 w2 z9 := Step.ofBelow z9 B2
  have s3 := newStep (fun k => k ≠ 0) w2 z9 5 (.cells #[.int .u64 9223372036854775841] 42)
  have K3 : Blk (w2.alloc (.cells #[.int .u64 9223372036854775841] 42)) (newLab w2 z9 5) 5 w2.heap.size (.cells #[.int .u64 9223372036854775841] 42 (0, 0)) := ⟨heap_alloc_new w2 _, newLab_new (Nat.le_refl _)⟩
  have T3 := T2.step s3 (by simp)
  have W3 := W2.step s3 (by simp)
  have S3 := s2.trans s3
  generalize newLab w2 z9 5 = o3 at s3 K3 T3 W3 S3
  obtain ⟨b1, hb1⟩ : ∃ b, b = w2.heap.size := ⟨_, rfl⟩
  have HB1 : Hid (b1 = w2.heap.size) := hb1
  rw [← hb1] at K3
  obtain ⟨w3, hw3⟩ : ∃ w3, w3 = w2.alloc (.cells #[.int .u64 9223372036854775841] 42) := ⟨_, rfl⟩
  rw [← hw3] at K3 T3 W3 S3
  clear hb1 hof B1 hO hb2 B2 T2 W2 s2 s3
  go_wp2_with fail
  rw [← hw3, ← HB1.out]
  clear hw3 HB1
  refine (new9 w3 o3 10).mono ?_
  rintro e w4 ⟨p, o4, rfl, F4, s4⟩
  have K4 := K3.step s4 id
  have T4 := T3.step s4 id
  have W4 := W3.step s4 id
  have S4 := S3.trans (s4.mono fun _ h => h.elim)
  have c4 := K4.cell1.1
  clear K3 T3 W3 S3 s4
  go_wp2_with fail
  refine (all_c 9223372036854775841 w4 o4 20 (by decide) T4 (by decide)).mono ?_
  rw [al0]
  rintro e w5 ⟨v, o5, rfl, R5, s5⟩
  have K5 := K4.step s5 (by decide)
  have T5 := T4.step s5 (by decide)
  have W5 := W4.step s5 (by decide)
  have F5 := F4.step s5 (by decide) (by decide)
  have S5 := S4.trans (s5.mono fun k h => by omega)
  clear K4 T4 W4 F4 S4 s5 c4
  have R6 := R5.step (allocStep (fun _ => False) w5 o5 (.cells #[.int .i64 0, .int .i64 5, .int .i64 63] 3)) id
  obtain ⟨a6, c6, rfl, I6⟩ := R6.ints (l := [0, 5, 63]) (fun x hx => by simp at hx; omega)
  have sm := same_c _ a6 (some ⟨w5.heap.size, 0, none⟩) 3 c6 3 nums3 I6 (ints3 w5) (by unfold maxLen; omega)
  have B6 : Below w5.heap.size w5 (w5.alloc (.cells #[.int .i64 0, .int .i64 5, .int .i64 63] 3)) := bal (b0 _) _
  clear R5 R6 I6
  go_wp2_with fail
  refine Calls.mono sm ?_
  rintro e w7 ⟨rfl, hb7⟩
  have s7 : Step (fun _ => False) w5 o5 w7 o5 := Step.ofBelow o5 (bjoin B6 hb7)
  have K7 := K5.step s7 id
  have T7 := T5.step s7 id
  have W7 := W5.step s7 id
  have F7 := F5.step s7 id id
  have S7 := S5.trans (s7.mono fun k h => h.elim)
  clear K5 T5 W5 F5 S5 s7 sm B6 hb7
  have ad := add_ok w7 o5 10 p 0 (fun _ => none) few F7 few_size W7.1 few_name rfl (by omega)
  rw [show few = ⟨#[102, 101, 119]⟩ from rfl] at ad
  go_wp2_with fail
  refine Calls.mono ad ?_
  rintro e w8 ⟨rfl, F8, s8⟩
  have K8 := K7.step s8 (by decide)
  have T8 := T7.step s8 (by decide)
  have W8 := W7.step s8 (by decide)
  have S8 := S7.trans (s8.mono fun k h => by omega)
  have c8 := K8.cell1.1
  clear K7 T7 W7 F7 S7 s8 ad
  have ly := lay_ok w8 o5 10 p 1 _ few 9223372036854775841 F8 few_size (by simp [updN, few]) (by omega)
  rw [show few = ⟨#[102, 101, 119]⟩ from rfl] at ly
  go_wp2_with fail
  refine Calls.mono ly ?_
  rintro e w9 ⟨rfl, F9, s9⟩
  have K9 := K8.step s9 (by decide)
  have T9 := T8.step s9 (by decide)
  have W9 := W8.step s9 (by decide)
  have S9 := S8.trans (s9.mono fun k h => by omega)
  clear K8 T8 W8 F8 S8 s9 ly c8
  have gt := get_ok w9 o5 10 p 1 _ few 9223372036854775841 F9 few_size (by simp [updN, few])
  rw [show few = ⟨#[102, 101, 119]⟩ from rfl] at gt
  go_wp2_with fail
  refine Calls.mono gt ?_
  rintro e w10 ⟨rfl, hb10⟩
  have s10 : Step (fun _ => False) w9 o5 w10 o5 := Step.ofBelow o5 hb10
  have s11 := newStep (fun _ => False) w10 o5 6 (.cells #[.int .u64 9223372036854775841] 42)
  have K7' : Blk (w10.alloc (.cells #[.int .u64 9223372036854775841] 42)) (newLab w10 o5 6) 6 w10.heap.size (.cells #[.int .u64 9223372036854775841] 42 (0, 0)) := ⟨heap_alloc_new w10 _, newLab_new (Nat.le_refl _)⟩
  have st := s10.trans s11
  have K11 := K9.step st id
  have T11 := T9.step st id
  have W11 := W9.step st id
  have F11 := F9.step st id id
  have S11 := S9.trans (st.mono fun k h => h.elim)
  generalize newLab w10 o5 6 = o11 at s11 K7' st K11 T11 W11 F11 S11
  obtain ⟨b7, hb7⟩ : ∃ b, b = w10.heap.size := ⟨_, rfl⟩
  have HB7 : Hid (b7 = w10.heap.size) := hb7
  rw [← hb7] at K7'
  obtain ⟨w11, hw11⟩ : ∃ w11, w11 = w10.alloc (.cells #[.int .u64 9223372036854775841] 42) := ⟨_, rfl⟩
  rw [← hw11] at K7' K11 T11 W11 F11 S11
  have c11 := K11.cell1.1
  clear hb7 s10 s11 st K9 T9 W9 F9 S9 gt hb10
  go_upto_region 9 with fail
  rw [← hw11, ← HB7.out]
  clear hw11 HB7
  go_wp2_with fail
  refine (next_c 9223372036854775841 1 w11 (by decide) (by decide) (by decide) T11.1).mono ?_
  rw [nx1]
  rintro e w12 ⟨rfl, hb12⟩
  have s12 : Step (fun _ => False) w11 o11 w12 o11 := Step.ofBelow o11 hb12
  have K12 := K11.step s12 id
  have K12' := K7'.step s12 id
  have W12 := W11.step s12 id
  have F12 := F11.step s12 id id
  have S12 := S11.trans (s12.mono fun k h => h.elim)
  have c12 := K12.cell1.1
  have d12 := K12'.cell1.1
  have at2 := add_twice w12 o11 10 p 1 _ few F12 few_size W12.1 few_name (by simp [updN, few])
  rw [show few = ⟨#[102, 101, 119]⟩ from rfl] at at2
  clear K11 K7' T11 W11 F11 S11 s12 hb12 c11
  go_wp2_with fail
  refine Calls.mono at2 ?_
  rintro e w13 ⟨rfl, hb13⟩
  have RR : Below w.heap.size w w13 := bjoin (S12.below (fun k hk h => h rfl)) hb13
  clear at2 K12 K12' W12 F12 S12 hb13 c12 d12
  go_wp2
  go_ret
  exact ⟨rfl, RR⟩
end Go.Proofs.YtmpkhbblakfglaaDoor
