/- The reader: a quantifier. -/
import Derived.Test.YtafnlhnenmpfoaaGreatDoorSynI
import Derived.Deep.RegionHeld3
namespace Go.Proofs.YtafnlhnenmpfoaaGreatDoor
open Go.ChangeShapes Go.WideShapes Go.ChangeAt Go.RowKit
set_option linter.unusedVariables false
set_option linter.unusedSimpArgs false

theorem heap_set5 (w : World) (b k : Nat) (b0 b1 b2 b3 b4 : Value) (h : k ≠ b) : (((((w.setCell ⟨b, 0, none⟩ b0).setCell ⟨b, 1, none⟩ b1).setCell ⟨b, 2, none⟩ b2).setCell ⟨b, 3, none⟩ b3).setCell ⟨b, 4, none⟩ b4).heap[k]? = w.heap[k]? :=
  (heap_setCell_other _ ⟨b, 4, none⟩ k b4 h).trans ((heap_setCell_other _ ⟨b, 3, none⟩ k b3 h).trans ((heap_setCell_other _ ⟨b, 2, none⟩ k b2 h).trans ((heap_setCell_other _ ⟨b, 1, none⟩ k b1 h).trans (heap_setCell_other w ⟨b, 0, none⟩ k b0 h))))
set_option maxRecDepth 100000 in
set_option maxHeartbeats 2000000 in
theorem set_r {rec : Rdr} (R : RecOk rec) {w : World} {rb o q : Nat} {ts : List Tk} (m : Nat) (hm : m ≤ 1000000) (ho : o ≤ 64) (hq : q ≤ 4) (h : RdS w rb o q ts) (T : Tabs rb w) (hn : setR rec m o q ts ≠ .out) :
    Calls Tryz.prog 157 #[.pointer (some ⟨rb, 0, none⟩)] w (PostE rb o q w (setR rec m o q ts)) := by
  obtain ⟨W, hW⟩ : ∃ W, W = setR rec m o q ts := ⟨_, rfl⟩
  rw [← hW] at hn ⊢
  have HW : Hid (W = setR rec m o q ts) := hW
  have hrb := h.lt
  have K0 : Keep rb w (w.alloc exZ) := (Keep.refl rb w).alloc _
  have Z0 : (w.alloc exZ).heap[w.heap.size]? = some exZ := heap_alloc_new w _
  have h0 := h.alloc exZ
  have T0 := T.keep K0
  clear hW
  cases ts with
  | nil => exact absurd HW.out hn
  | cons x r =>
  have c0 := token_r h0
  unfold tkV at c0
  go_enter Tryz.func157, Tryz.ntmps157
  go_wp2_with fail
  refine c0.mono ?_
  rintro e w1 ⟨rfl, b1⟩
  have k1 : Keep rb _ w1 := Keep.ofBelow b1
  have h1 := h0.below b1
  have Z1 := k1.blk Z0 (by omega)
  have K1 := K0.trans k1
  have T1 := T0.keep k1
  clear c0 b1 h0 Z0 K0 T0 k1
  have h2 := h1.alloc (.cells #[.int .i64 (x.k : Nat), .int .i64 x.n, stv x.t, .int .i64 (x.a : Nat)] 47)
  have K2 := K1.alloc (.cells #[.int .i64 (x.k : Nat), .int .i64 x.n, stv x.t, .int .i64 (x.a : Nat)] 47)
  have Z2 := (Below.heap_alloc w1 (.cells #[.int .i64 (x.k : Nat), .int .i64 x.n, stv x.t, .int .i64 (x.a : Nat)] 47) _ (lt_of_block Z1)).trans Z1
  have Y_2 : (w1.alloc (.cells #[.int .i64 (x.k : Nat), .int .i64 x.n, stv x.t, .int .i64 (x.a : Nat)] 47)).heap[w1.heap.size]? = some (.cells #[.int .i64 (x.k : Nat), .int .i64 x.n, stv x.t, .int .i64 (x.a : Nat)] 47) := heap_alloc_new w1 _
  have T2 := T1.keep ((Keep.refl rb w1).alloc (.cells #[.int .i64 (x.k : Nat), .int .i64 x.n, stv x.t, .int .i64 (x.a : Nat)] 47))
  have hb1 : rb < w1.heap.size := by have := K1.size; omega
  have hz1 : w.heap.size < w1.heap.size := lt_of_block Z1
  clear h1 K1 Z1 T1
  by_cases hk : x.k = 2
  · have hk3 : ((x.k : Int) == 2) = true := by rw [beq_iff_eq]; omega
    have HK : Hid (x.k = 2) := hk
    clear hk
    have c3 := passKind_r x.k h2 (by simp [passK])
    rw [show passK x.k (x :: r) = .ok x r by simp [passK]] at c3
    have f1 := tk_f1
    have f2 := tk_f2
    go_upto_region 3 with fail
    generalize w1.alloc (.cells #[.int .i64 (x.k : Nat), .int .i64 x.n, stv x.t, .int .i64 (x.a : Nat)] 47) = w2 at *
    generalize w1.heap.size = bt at *
    have c3 : Calls Tryz.prog 141 #[.pointer (some ⟨rb, 0, none⟩), .int .i64 (x.k : Nat)] w2 (fun e w' => e = .returned (.agg #[.int .i64 (x.k : Nat), .int .i64 x.n, stv x.t, .int .i64 (x.a : Nat)]) ∧ RdS w' rb o q r ∧ Keep rb w2 w') := c3
    have HC : Hid (∀ wx : World, wx.heap[bt]? = some (.cells #[.int .i64 (x.k : Nat), .int .i64 x.n, stv x.t, .int .i64 (x.a : Nat)] 47) → wx.cell? ⟨bt, 0, none⟩ = some (.int .i64 (x.k : Nat)) ∧ wx.cell? ⟨bt, 3, none⟩ = some (.int .i64 (x.a : Nat))) := fun wx hw => by
      obtain ⟨y0, y1, y2, y3, -⟩ := Blk.cells4 (o := fun _ => 0) (i := 0) ⟨hw, rfl⟩
      exact ⟨y0, y3⟩
    have Yd : w2.drew.heap[bt]? = some (.cells #[.int .i64 (x.k : Nat), .int .i64 x.n, stv x.t, .int .i64 (x.a : Nat)] 47) := Y_2
    have c4 : ∀ w' : World, w' = w2.drew → Calls Tryz.prog 141 #[.pointer (some ⟨rb, 0, none⟩), .int .i64 (x.k : Nat)] w' (fun e w3 => e = .returned (.agg #[.int .i64 (x.k : Nat), .int .i64 x.n, stv x.t, .int .i64 (x.a : Nat)]) ∧ RdS w3 rb o q r ∧ Keep rb w2 w3) := fun w' hw' => by
      subst hw'
      have hd : RdS w2.drew rb o q (x :: r) := h2
      have := passKind_r x.k hd (by simp [passK])
      rw [show passK x.k (x :: r) = .ok x r by simp [passK]] at this
      refine Calls.mono this ?_
      rintro e w3 ⟨a, b, k⟩
      exact ⟨a, b, ⟨k.os, k.tape, k.output, k.size, k.block⟩⟩
    clear c3
    have FIN : Hid (W = .ok ⟨23, 0, x.t, x.a, .nil⟩ r) := by show W = _; rw [HW.out]; simp only [setR]; simp [HK.out]
    clear HW HK hk3
    go_region_held3 (fun wx => wx.cell? ⟨bt, 0, none⟩ = some (.int .i64 (x.k : Nat)) ∧ wx.cell? ⟨bt, 3, none⟩ = some (.int .i64 (x.a : Nat))) (first | (with_reducible exact HC.out _ Yd) | (with_reducible exact HC.out _ Y3) | (with_reducible exact HC.out _ Y4)) ((go_at_call 141; refine (c4 _ rfl).mono ?_; rintro e w3 ⟨rfl, h3, k3⟩; have Y3 := k3.blk Y_2 (by omega); have Z3 := k3.blk Z2 (by omega); obtain ⟨z0, z1, z2, z3, z4, zf⟩ := box5 Z3; have Y4 := (heap_set5 w3 w.heap.size bt (.int .i64 23) (.int .i64 0) (stv x.t) (.slice none 0 0) (.int .i64 x.a) (by omega)).trans Y3))
    all_goals
      have K3 := K2.trans k3
      have KE := K3.set5 (Nat.le_refl _) (.int .i64 23) (.int .i64 0) (stv x.t) (.slice none 0 0) (.int .i64 x.a)
      have RE := h3.set5 hrb (.int .i64 23) (.int .i64 0) (stv x.t) (.slice none 0 0) (.int .i64 x.a)
      have ZE := set5k (.int .i64 23) (.int .i64 0) (stv x.t) (.slice none 0 0) (.int .i64 x.a) Z3
      obtain ⟨u0, u1, u2, u3, u4, -⟩ := box5 ZE
      clear HC Yd Y3 Z3 Y4 K3 K2 h2 Z2 Y_2 T2 T ZE c4
      go_wp2
      exact bodyPost_ret (v := exV ⟨23, 0, x.t, x.a, .nil⟩ none 0) (by simp [results, Tryz.results157, go_sem, u0, u1, u2, u3, u4, exV, Fs.len]) rfl (by rw [FIN.out]; exact ⟨_, _, rfl, Sl.nil _ _ _, RE, KE⟩)
  have hk3 : ((x.k : Int) == 2) = false := by rw [beq_eq_false_iff_ne]; omega
  by_cases hv : x.t = [118, 101, 114, 116, 105, 99, 101, 115]
  · have hv2 : (x.t == [118, 101, 114, 116, 105, 99, 101, 115]) = true := by simpa using hv
    have HV : Hid (x.t = [118, 101, 114, 116, 105, 99, 101, 115]) := hv
    clear hv
    have c3 := pass_r [118, 101, 114, 116, 105, 99, 101, 115] h2 (by simp [passT, HV.out])
    rw [show passT [118, 101, 114, 116, 105, 99, 101, 115] (x :: r) = .ok x.a r by simp [passT, HV.out]] at c3
    have c3 : Calls _ _ _ _ (fun e w' => e = .returned (.int .i64 (x.a : Nat)) ∧ RdS w' rb o q r ∧ Keep rb _ w') := c3
    go_wp2_with fail
    refine c3.mono ?_
    rintro e w3 ⟨rfl, h3, k3⟩
    clear c3
    have Z3 := k3.blk Z2 (by have := K2.size; omega)
    have K3 := K2.trans k3
    have Y_3 := k3.blk Y_2 (by omega)
    have T3 := T2.keep k3
    clear K2 Y_2 T2 Z2
    have NS := True.intro
    have KF := K3
    have RF := h3
    have ZF := Z3
    have KE := KF.set5 (b := w.heap.size) (by omega) (.int .i64 22) (.int .i64 0) (stv []) (.slice none 0 0) (.int .i64 x.a)
    have RE := RF.set5 (b := w.heap.size) (by omega) (.int .i64 22) (.int .i64 0) (stv []) (.slice none 0 0) (.int .i64 x.a)
    have ZE := set5k (.int .i64 22) (.int .i64 0) (stv []) (.slice none 0 0) (.int .i64 x.a) ZF
    obtain ⟨z0, z1, z2, z3, z4, zf⟩ := box5 ZF
    obtain ⟨u0, u1, u2, u3, u4, -⟩ := box5 ZE
    obtain ⟨y00, y01, y02, y03, y0f⟩ := Blk.cells4 (o := fun _ => 0) (i := 0) ⟨Y_3, rfl⟩
    have FIN : Hid (W = .ok ⟨22, 0, [], x.a, .nil⟩ r) := by show W = _; rw [HW.out]; simp only [setR, Rs.bind]; simp [hk, HV.out]
    clear HW ZE ZF KF RF NS K3 Z3 h3 T3 Y_3
    go_wp2
    exact bodyPost_ret (v := exV ⟨22, 0, [], x.a, .nil⟩ none 0) (by simp [results, Tryz.results157, go_sem, u0, u1, u2, u3, u4, exV, Fs.len]) rfl (by rw [FIN.out]; exact ⟨_, _, rfl, Sl.nil _ _ _, RE, KE⟩)
  have hv2 : (x.t == [118, 101, 114, 116, 105, 99, 101, 115]) = false := by simpa using hv
  by_cases ha : x.t = [97, 114, 111, 117, 110, 100]
  · have ha2 : (x.t == [97, 114, 111, 117, 110, 100]) = true := by simpa using ha
    have HW1 : Hid (W = (argsR rec 1 o q r).bind fun ks t => .ok ⟨24, 0, [], x.a, ks⟩ t) := by show W = _; rw [HW.out]; simp only [setR]; simp [hk, hv, ha]
    clear HW
    have HW := HW1
    have HV : Hid (x.t = [97, 114, 111, 117, 110, 100]) := ha
    clear HW1 ha
    have c3 := pass_r [97, 114, 111, 117, 110, 100] h2 (by simp [passT, HV.out])
    rw [show passT [97, 114, 111, 117, 110, 100] (x :: r) = .ok x.a r by simp [passT, HV.out]] at c3
    have c3 : Calls _ _ _ _ (fun e w' => e = .returned (.int .i64 (x.a : Nat)) ∧ RdS w' rb o q r ∧ Keep rb _ w') := c3
    go_wp2_with fail
    refine c3.mono ?_
    rintro e w3 ⟨rfl, h3, k3⟩
    clear c3
    have Z3 := k3.blk Z2 (by have := K2.size; omega)
    have K3 := K2.trans k3
    have Y_3 := k3.blk Y_2 (by omega)
    have T3 := T2.keep k3
    clear K2 Y_2 T2 Z2
    have c4 := args_r R 1 (by omega) (by omega) ho hq h3 T3 (fun e => hn (by rw [HW.out, e]; rfl))
    go_wp2_with fail
    refine c4.mono ?_
    rintro e w4 hP
    clear c4
    cases hr4 : argsR rec 1 o q r using Rs.on with
    | out => rw [hr4] at hP; exact hP.elim
    | bad er a =>
      rw [hr4] at hP
      obtain ⟨rfl, k4⟩ := hP
      have KB := K3.trans k4
      have FIN : Hid (W = .bad er a) := by show W = _; rw [HW.out]; simp only [if_true, hr4, Rs.bind]
      clear HW
      go_wp2
      exact ⟨rfl, by rw [FIN.out]; exact And.intro rfl KB⟩
    | ok ks t4 =>
      rw [hr4] at hP
      obtain ⟨ao4, cap4, rfl, S4, h4, k4⟩ := hP
      have S4a := S4.low (show (w.heap.size + 1) ≤ _ from (by have := lt_of_block Z3; omega))
      clear S4
      have Z4 := k4.blk Z3 (by have := K3.size; omega)
      have K4 := K3.trans k4
      have Y_4 := k4.blk Y_3 (by omega)
      have T4 := T3.keep k4
      clear K3 Y_3 T3 Z3
      have NS := S4a
      have KF := K4
      have RF := h4
      have ZF := Z4
      have KE := KF.set5 (b := w.heap.size) (by omega) (.int .i64 24) (.int .i64 0) (stv []) (.slice ao4 ks.len cap4) (.int .i64 x.a)
      have RE := RF.set5 (b := w.heap.size) (by omega) (.int .i64 24) (.int .i64 0) (stv []) (.slice ao4 ks.len cap4) (.int .i64 x.a)
      have ZE := set5k (.int .i64 24) (.int .i64 0) (stv []) (.slice ao4 ks.len cap4) (.int .i64 x.a) ZF
      have SE : Sl _ (Nw w.heap.size) _ _ := (NS.set5 (b := w.heap.size) (by omega) (.int .i64 24) (.int .i64 0) (stv []) (.slice ao4 ks.len cap4) (.int .i64 x.a)).low (by omega)
      obtain ⟨z0, z1, z2, z3, z4, zf⟩ := box5 ZF
      obtain ⟨u0, u1, u2, u3, u4, -⟩ := box5 ZE
      obtain ⟨y00, y01, y02, y03, y0f⟩ := Blk.cells4 (o := fun _ => 0) (i := 0) ⟨Y_4, rfl⟩
      have FIN : Hid (W = .ok ⟨24, 0, [], x.a, ks⟩ t4) := by show W = _; rw [HW.out]; simp only [hr4, Rs.bind]
      clear HW ZE ZF KF RF NS K4 Z4 h4 T4 Y_4 S4a
      go_wp2
      exact bodyPost_ret (v := exV ⟨24, 0, [], x.a, ks⟩ ao4 cap4) (by simp [results, Tryz.results157, go_sem, u0, u1, u2, u3, u4, exV]) rfl (by rw [FIN.out]; exact ⟨_, _, rfl, SE, RE, KE⟩)
  have ha2 : (x.t == [97, 114, 111, 117, 110, 100]) = false := by simpa using ha
  have HW1 : Hid (W = (enterT [123] o (x :: r)).bind fun a t1 => (memR rec m (o + 1) q t1).bind fun ks t2 => (passT [125] t2).bind fun _ t3 => .ok ⟨25, 0, [], a, ks⟩ t3) := by show W = _; rw [HW.out]; simp only [setR]; simp [hk, hv, ha]
  clear HW
  have HW := HW1
  clear HW1
  have c3 := enter_r [123] h2 ho (fun e => hn (by rw [HW.out, e]; rfl))
  go_wp2_with fail
  refine c3.mono ?_
  rintro e w3 hP
  clear c3
  cases hr3 : enterT [123] o (x :: r) using Rs.on with
  | out => rw [hr3] at hP; exact hP.elim
  | bad er a =>
    rw [hr3] at hP
    obtain ⟨rfl, k3⟩ := hP
    have KB := K2.trans k3
    have FIN : Hid (W = .bad er a) := by show W = _; rw [HW.out]; simp only [if_true, hr3, Rs.bind]
    clear HW
    go_wp2
    exact ⟨rfl, by rw [FIN.out]; exact And.intro rfl KB⟩
  | ok a0 t3 =>
    rw [hr3] at hP
    obtain ⟨rfl, h3, k3⟩ := hP
    have Z3 := k3.blk Z2 (by have := K2.size; omega)
    have K3 := K2.trans k3
    have Y_3 := k3.blk Y_2 (by omega)
    have T3 := T2.keep k3
    clear K2 Y_2 T2 Z2
    have ho1 := enter_le hr3 ho
    have c4 := mem_r R m hm ho1 hq h3 T3 (fun e => hn (by rw [HW.out]; simp only [hr3, e, Rs.bind]))
    go_wp2_with fail
    refine c4.mono ?_
    rintro e w4 hP
    clear c4
    cases hr4 : memR rec m (o + 1) q t3 using Rs.on with
    | out => rw [hr4] at hP; exact hP.elim
    | bad er a =>
      rw [hr4] at hP
      obtain ⟨rfl, k4⟩ := hP
      have KB := K3.trans k4
      have FIN : Hid (W = .bad er a) := by show W = _; rw [HW.out]; simp only [hr3, hr4, Rs.bind]
      clear HW
      go_wp2
      exact ⟨rfl, by rw [FIN.out]; exact And.intro rfl KB⟩
    | ok ks t4 =>
      rw [hr4] at hP
      obtain ⟨ao4, cap4, rfl, S4, h4, k4⟩ := hP
      have S4a := S4.low (show (w.heap.size + 1) ≤ _ from (by have := lt_of_block Z3; omega))
      clear S4
      have Z4 := k4.blk Z3 (by have := K3.size; omega)
      have K4 := K3.trans k4
      have Y_4 := k4.blk Y_3 (by omega)
      have T4 := T3.keep k4
      clear K3 Y_3 T3 Z3
      have c5 := pass_r [125] h4 (fun e => hn (by rw [HW.out]; simp only [hr3, hr4, e, Rs.bind]))
      go_wp2_with fail
      refine c5.mono ?_
      rintro e w5 hP
      clear c5
      cases hr5 : passT [125] t4 using Rs.on with
      | out => rw [hr5] at hP; exact hP.elim
      | bad er a =>
        rw [hr5] at hP
        obtain ⟨rfl, k5⟩ := hP
        have KB := K4.trans k5
        have FIN : Hid (W = .bad er a) := by show W = _; rw [HW.out]; simp only [hr3, hr4, hr5, Rs.bind]
        clear HW
        go_wp2
        exact ⟨rfl, by rw [FIN.out]; exact And.intro rfl KB⟩
      | ok x5 t5 =>
        rw [hr5] at hP
        obtain ⟨rfl, h5, k5⟩ := hP
        have Z5 := k5.blk Z4 (by have := K4.size; omega)
        have K5 := K4.trans k5
        have Y_5 := k5.blk Y_4 (by omega)
        have S4a_5 := S4a.keepN k5 (by omega)
        have T5 := T4.keep k5
        clear K4 Y_4 S4a T4 Z4
        have c6 := leave_r h5 ho
        go_wp2_with fail
        refine c6.mono ?_
        rintro e w6 ⟨rfl, h6, k6⟩
        clear c6
        have Z6 := k6.blk Z5 (by have := K5.size; omega)
        have K6 := K5.trans k6
        have Y_6 := k6.blk Y_5 (by omega)
        have S4a_6 := S4a_5.keepN k6 (by omega)
        have T6 := T5.keep k6
        clear K5 Y_5 S4a_5 T5 Z5
        have NS := S4a_6
        have KF := K6
        have RF := h6
        have ZF := Z6
        have KE := KF.set5 (b := w.heap.size) (by omega) (.int .i64 25) (.int .i64 0) (stv []) (.slice ao4 ks.len cap4) (.int .i64 a0)
        have RE := RF.set5 (b := w.heap.size) (by omega) (.int .i64 25) (.int .i64 0) (stv []) (.slice ao4 ks.len cap4) (.int .i64 a0)
        have ZE := set5k (.int .i64 25) (.int .i64 0) (stv []) (.slice ao4 ks.len cap4) (.int .i64 a0) ZF
        have SE : Sl _ (Nw w.heap.size) _ _ := (NS.set5 (b := w.heap.size) (by omega) (.int .i64 25) (.int .i64 0) (stv []) (.slice ao4 ks.len cap4) (.int .i64 a0)).low (by omega)
        obtain ⟨z0, z1, z2, z3, z4, zf⟩ := box5 ZF
        obtain ⟨u0, u1, u2, u3, u4, -⟩ := box5 ZE
        obtain ⟨y00, y01, y02, y03, y0f⟩ := Blk.cells4 (o := fun _ => 0) (i := 0) ⟨Y_6, rfl⟩
        have FIN : Hid (W = .ok ⟨25, 0, [], a0, ks⟩ t5) := by show W = _; rw [HW.out]; simp only [hr3, hr4, hr5, Rs.bind]
        clear HW ZE ZF KF RF NS K6 Z6 h6 T6 Y_6 S4a_6
        go_wp2
        exact bodyPost_ret (v := exV ⟨25, 0, [], a0, ks⟩ ao4 cap4) (by simp [results, Tryz.results157, go_sem, u0, u1, u2, u3, u4, exV]) rfl (by rw [FIN.out]; exact ⟨_, _, rfl, SE, RE, KE⟩)
end Go.Proofs.YtafnlhnenmpfoaaGreatDoor
namespace Go.Proofs.YtafnlhnenmpfoaaGreatDoor
open Go.ChangeShapes Go.WideShapes Go.ChangeAt Go.RowKit
set_option linter.unusedVariables false
set_option linter.unusedSimpArgs false

set_option maxRecDepth 100000 in
set_option maxHeartbeats 2000000 in
theorem quant_r {rec : Rdr} (R : RecOk rec) {w : World} {rb o q : Nat} {ts : List Tk} (m : Nat) (hm : m ≤ 1000000) (s : List UInt8) (n : Nat) (ho : o ≤ 64) (hq : q ≤ 4) (h : RdS w rb o q ts) (T : Tabs rb w) (hn : quantR rec m s n o q ts ≠ .out) :
    Calls Tryz.prog 147 #[.pointer (some ⟨rb, 0, none⟩), .agg #[stv s, .int .i64 (n : Nat)]] w (PostE rb o q w (quantR rec m s n o q ts)) := by
  obtain ⟨W, hW⟩ : ∃ W, W = quantR rec m s n o q ts := ⟨_, rfl⟩
  rw [← hW] at hn ⊢
  have HW : Hid (W = quantR rec m s n o q ts) := hW
  have hrb := h.lt
  clear hW
  cases ts with
  | nil => exact absurd HW.out hn
  | cons x r =>
  have K0 : Keep rb w ((w.alloc (.cells #[stv s, .int .i64 (n : Nat)] 133)).alloc (.cells #[.int .i64 0, .int .i64 0, .string ⟨#[]⟩, .slice none 0 0, .int .i64 0] 25)) := ((Keep.refl rb w).alloc _).alloc _
  have h0 := (h.alloc (.cells #[stv s, .int .i64 (n : Nat)] 133)).alloc (.cells #[.int .i64 0, .int .i64 0, .string ⟨#[]⟩, .slice none 0 0, .int .i64 0] 25)
  have hsz : (w.alloc (.cells #[stv s, .int .i64 (n : Nat)] 133)).heap.size = w.heap.size + 1 := by simp
  have Z0 : ((w.alloc (.cells #[stv s, .int .i64 (n : Nat)] 133)).alloc (.cells #[.int .i64 0, .int .i64 0, .string ⟨#[]⟩, .slice none 0 0, .int .i64 0] 25)).heap[w.heap.size + 1]? = some (.cells #[.int .i64 0, .int .i64 0, .string ⟨#[]⟩, .slice none 0 0, .int .i64 0] 25) := by rw [← hsz]; exact heap_alloc_new _ _
  have Q0 : ((w.alloc (.cells #[stv s, .int .i64 (n : Nat)] 133)).alloc (.cells #[.int .i64 0, .int .i64 0, .string ⟨#[]⟩, .slice none 0 0, .int .i64 0] 25)).heap[w.heap.size]? = some (.cells #[stv s, .int .i64 (n : Nat)] 133 (0, 0)) := (Below.heap_alloc _ (.cells #[.int .i64 0, .int .i64 0, .string ⟨#[]⟩, .slice none 0 0, .int .i64 0] 25) _ (by rw [hsz]; omega)).trans (heap_alloc_new w _)
  clear hsz
  obtain ⟨d2, d3, df, -, hs3⟩ := h0.cells
  go_enter Tryz.func147, Tryz.ntmps147
  go_upto_region 1 with fail
  generalize (w.alloc (.cells #[stv s, .int .i64 (n : Nat)] 133)).alloc (.cells #[.int .i64 0, .int .i64 0, .string ⟨#[]⟩, .slice none 0 0, .int .i64 0] 25) = w0 at *
  by_cases h4 : q = 4
  · have FIN : Hid (W = .bad 121 x.a) := by show W = _; rw [HW.out]; simp [quantR, h4]
    have c1 := refused_r 121 h0
    subst h4
    clear HW hs3 Z0 Q0 T
    go_wp2_with fail
    refine c1.mono ?_
    rintro e w1 ⟨rfl, b1⟩
    have KB := K0.trans (Keep.ofBelow (rb := rb) b1)
    clear c1 b1 K0
    go_wp2
    exact ⟨rfl, by rw [FIN.out]; exact And.intro rfl KB⟩
  have h4b : ((q : Int) == 4) = false := by rw [beq_eq_false_iff_ne]; omega
  have hq1 : q + 1 ≤ 4 := by omega
  have HW1 : Hid (W = (enterT s o (x :: r)).bind fun a t1 => (passK 2 t1).bind fun y t2 => (passT [105, 110] t2).bind fun _ t3 => (setR rec m (o + 1) (q + 1) t3).bind fun e t4 => (passT [58] t4).bind fun _ t5 => (rec 1 (o + 1) (q + 1) t5).bind fun b t6 => .ok ⟨21, (n : Nat), y.t, a, (one e).snoc b⟩ t6) := by show W = _; rw [HW.out]; simp only [quantR, h4, if_false]
  clear HW
  have HW := HW1
  clear HW1
  have eq1 : ((q + 1 : Nat) : Int) = (q : Int) + 1 := by omega
  have h1 := hs3 (q + 1)
  rw [eq1] at h1
  have K1 := K0.set ⟨rb, 3, none⟩ (.int .i64 ((q : Int) + 1)) (.inr rfl)
  have Z1 := (heap_setCell_other w0 ⟨rb, 3, none⟩ (w.heap.size + 1) (.int .i64 ((q : Int) + 1)) (show w.heap.size + 1 ≠ rb by omega)).trans Z0
  have Q_1 := (heap_setCell_other w0 ⟨rb, 3, none⟩ w.heap.size (.int .i64 ((q : Int) + 1)) (show w.heap.size ≠ rb by omega)).trans Q0
  have T1 := T.keep K1
  obtain ⟨p0, p1, pf⟩ := Blk.cells2 (o := fun _ => 0) (i := 0) ⟨Q_1, rfl⟩
  have f2 := tk_f2
  clear h4 hs3 K0 Z0 Q0 h0
  have c2 := enter_r s h1 ho (fun e => hn (by rw [HW.out, e]; rfl))
  go_wp2_with fail
  refine c2.mono ?_
  rintro e w2 hP
  clear c2
  cases hr2 : enterT s o (x :: r) using Rs.on with
  | out => rw [hr2] at hP; exact hP.elim
  | bad er a =>
    rw [hr2] at hP
    obtain ⟨rfl, k2⟩ := hP
    have KB := K1.trans k2
    have FIN : Hid (W = .bad er a) := by show W = _; rw [HW.out]; simp only [if_true, hr2, Rs.bind]
    clear HW
    go_wp2
    exact ⟨rfl, by rw [FIN.out]; exact And.intro rfl KB⟩
  | ok a0 t2 =>
    rw [hr2] at hP
    obtain ⟨rfl, h2, k2⟩ := hP
    have Z2 := k2.blk Z1 (by have := K1.size; omega)
    have K2 := K1.trans k2
    have Q_2 := k2.blk Q_1 (by omega)
    have T2 := T1.keep k2
    clear K1 Q_1 T1 Z1
    have ho1 := enter_le hr2 ho
    clear p0 p1 pf d2 d3 df h4b
    have c3 := passKind_r 2 h2 (fun e => hn (by rw [HW.out]; simp only [hr2, e, Rs.bind]))
    go_wp2_with fail
    refine c3.mono ?_
    rintro e w3 hP
    clear c3
    cases hr3 : passK 2 t2 using Rs.on with
    | out => rw [hr3] at hP; exact hP.elim
    | bad er a =>
      rw [hr3] at hP
      obtain ⟨rfl, k3⟩ := hP
      have KB := K2.trans k3
      have FIN : Hid (W = .bad er a) := by show W = _; rw [HW.out]; simp only [hr2, hr3, Rs.bind]
      clear HW
      go_wp2
      exact ⟨rfl, by rw [FIN.out]; exact And.intro rfl KB⟩
    | ok y t3 =>
      rw [hr3] at hP
      obtain ⟨rfl, h3, k3⟩ := hP
      have Z3 := k3.blk Z2 (by have := K2.size; omega)
      have K3 := K2.trans k3
      have Q_3 := k3.blk Q_2 (by omega)
      have T3 := T2.keep k3
      clear K2 Q_2 T2 Z2
      unfold tkV
      have c4 := pass_r [105, 110] h3 (fun e => hn (by rw [HW.out]; simp only [hr2, hr3, e, Rs.bind]))
      go_wp2_with fail
      refine c4.mono ?_
      rintro e w4 hP
      clear c4
      cases hr4 : passT [105, 110] t3 using Rs.on with
      | out => rw [hr4] at hP; exact hP.elim
      | bad er a =>
        rw [hr4] at hP
        obtain ⟨rfl, k4⟩ := hP
        have KB := K3.trans k4
        have FIN : Hid (W = .bad er a) := by show W = _; rw [HW.out]; simp only [hr2, hr3, hr4, Rs.bind]
        clear HW
        go_wp2
        exact ⟨rfl, by rw [FIN.out]; exact And.intro rfl KB⟩
      | ok x4 t4 =>
        rw [hr4] at hP
        obtain ⟨rfl, h4, k4⟩ := hP
        have Z4 := k4.blk Z3 (by have := K3.size; omega)
        have K4 := K3.trans k4
        have Q_4 := k4.blk Q_3 (by omega)
        have T4 := T3.keep k4
        clear K3 Q_3 T3 Z3
        have c5 := set_r R m hm ho1 hq1 h4 T4 (fun e => hn (by rw [HW.out]; simp only [hr2, hr3, hr4, e, Rs.bind]))
        go_wp2_with fail
        refine c5.mono ?_
        rintro e w5 hP
        clear c5
        cases hr5 : setR rec m (o + 1) (q + 1) t4 using Rs.on with
        | out => rw [hr5] at hP; exact hP.elim
        | bad er a =>
          rw [hr5] at hP
          obtain ⟨rfl, k5⟩ := hP
          have KB := K4.trans k5
          have FIN : Hid (W = .bad er a) := by show W = _; rw [HW.out]; simp only [hr2, hr3, hr4, hr5, Rs.bind]
          clear HW
          go_wp2
          exact ⟨rfl, by rw [FIN.out]; exact And.intro rfl KB⟩
        | ok se t5 =>
          rw [hr5] at hP
          obtain ⟨ao5, cap5, rfl, S5, h5, k5⟩ := hP
          have S5a := S5.low (show (w.heap.size + 2) ≤ _ from (by have := lt_of_block Z4; omega))
          clear S5
          have Z5 := k5.blk Z4 (by have := K4.size; omega)
          have K5 := K4.trans k5
          have Q_5 := k5.blk Q_4 (by omega)
          have T5 := T4.keep k5
          clear K4 Q_4 T4 Z4
          have h5a := h5.alloc (.cells #[.int .i64 se.k, .int .i64 se.n, stv se.nm, .slice ao5 se.kids.len cap5, .int .i64 se.a] 25)
          have K5a := K5.alloc (.cells #[.int .i64 se.k, .int .i64 se.n, stv se.nm, .slice ao5 se.kids.len cap5, .int .i64 se.a] 25)
          have Z5a := (Below.heap_alloc w5 (.cells #[.int .i64 se.k, .int .i64 se.n, stv se.nm, .slice ao5 se.kids.len cap5, .int .i64 se.a] 25) _ (lt_of_block Z5)).trans Z5
          have Q_5a := (Below.heap_alloc w5 (.cells #[.int .i64 se.k, .int .i64 se.n, stv se.nm, .slice ao5 se.kids.len cap5, .int .i64 se.a] 25) _ (lt_of_block Q_5)).trans Q_5
          have Y5_a : (World.alloc w5 (.cells #[.int .i64 se.k, .int .i64 se.n, stv se.nm, .slice ao5 se.kids.len cap5, .int .i64 se.a] 25)).heap[w5.heap.size]? = some (.cells #[.int .i64 se.k, .int .i64 se.n, stv se.nm, .slice ao5 se.kids.len cap5, .int .i64 se.a] 25) := heap_alloc_new w5 _
          have S5a_5b := S5a.allocN (.cells #[.int .i64 se.k, .int .i64 se.n, stv se.nm, .slice ao5 se.kids.len cap5, .int .i64 se.a] 25)
          have T5a := T5.keep ((Keep.refl rb w5).alloc (.cells #[.int .i64 se.k, .int .i64 se.n, stv se.nm, .slice ao5 se.kids.len cap5, .int .i64 se.a] 25))
          have hb5 : rb < w5.heap.size := by have := K5.size; omega
          clear K5 Z5 Q_5 S5a T5 h5
          rw [exV_out]
          have c6 := pass_r [58] h5a (fun e => hn (by rw [HW.out]; simp only [hr2, hr3, hr4, hr5, e, Rs.bind]))
          go_wp2_with fail
          refine c6.mono ?_
          rintro e w6 hP
          clear c6
          cases hr6 : passT [58] t5 using Rs.on with
          | out => rw [hr6] at hP; exact hP.elim
          | bad er a =>
            rw [hr6] at hP
            obtain ⟨rfl, k6⟩ := hP
            have KB := K5a.trans k6
            have FIN : Hid (W = .bad er a) := by show W = _; rw [HW.out]; simp only [hr2, hr3, hr4, hr5, hr6, Rs.bind]
            clear HW
            go_wp2
            exact ⟨rfl, by rw [FIN.out]; exact And.intro rfl KB⟩
          | ok x6 t6 =>
            rw [hr6] at hP
            obtain ⟨rfl, h6, k6⟩ := hP
            have Z6 := k6.blk Z5a (by have := K5a.size; omega)
            have K6 := K5a.trans k6
            have Q_6 := k6.blk Q_5a (by omega)
            have Y5_6 := k6.blk Y5_a (by omega)
            have S5a_6 := S5a_5b.keepN k6 (by omega)
            have T6 := T5a.keep k6
            clear K5a Q_5a Y5_a S5a_5b T5a Z5a
            have c7 := query_r R (o := o + 1) (q := q + 1) (by omega) (by omega) h6 T6 (fun e => hn (by rw [HW.out]; simp only [hr2, hr3, hr4, hr5, hr6, e, Rs.bind]))
            go_wp2_with fail
            refine c7.mono ?_
            rintro e w7 hP
            clear c7
            cases hr7 : rec 1 (o + 1) (q + 1) t6 using Rs.on with
            | out => rw [hr7] at hP; exact hP.elim
            | bad er a =>
              rw [hr7] at hP
              obtain ⟨rfl, k7⟩ := hP
              have KB := K6.trans k7
              have FIN : Hid (W = .bad er a) := by show W = _; rw [HW.out]; simp only [hr2, hr3, hr4, hr5, hr6, hr7, Rs.bind]
              clear HW
              go_wp2
              exact ⟨rfl, by rw [FIN.out]; exact And.intro rfl KB⟩
            | ok x7 t7 =>
              rw [hr7] at hP
              obtain ⟨ao7, cap7, rfl, S7, h7, k7⟩ := hP
              have S7a := S7.low (show (w.heap.size + 2) ≤ _ from (by have := lt_of_block Z6; omega))
              clear S7
              have Z7 := k7.blk Z6 (by have := K6.size; omega)
              have K7 := K6.trans k7
              have Q_7 := k7.blk Q_6 (by omega)
              have Y5_7 := k7.blk Y5_6 (by omega)
              have S5a_7 := S5a_6.keepN k7 (by omega)
              have T7 := T6.keep k7
              clear K6 Q_6 Y5_6 S5a_6 T6 Z6
              have h7a := h7.alloc (.cells #[.int .i64 x7.k, .int .i64 x7.n, stv x7.nm, .slice ao7 x7.kids.len cap7, .int .i64 x7.a] 25)
              have K7a := K7.alloc (.cells #[.int .i64 x7.k, .int .i64 x7.n, stv x7.nm, .slice ao7 x7.kids.len cap7, .int .i64 x7.a] 25)
              have Z7a := (Below.heap_alloc w7 (.cells #[.int .i64 x7.k, .int .i64 x7.n, stv x7.nm, .slice ao7 x7.kids.len cap7, .int .i64 x7.a] 25) _ (lt_of_block Z7)).trans Z7
              have Q_7a := (Below.heap_alloc w7 (.cells #[.int .i64 x7.k, .int .i64 x7.n, stv x7.nm, .slice ao7 x7.kids.len cap7, .int .i64 x7.a] 25) _ (lt_of_block Q_7)).trans Q_7
              have Y5_7a := (Below.heap_alloc w7 (.cells #[.int .i64 x7.k, .int .i64 x7.n, stv x7.nm, .slice ao7 x7.kids.len cap7, .int .i64 x7.a] 25) _ (lt_of_block Y5_7)).trans Y5_7
              have Y7_a : (World.alloc w7 (.cells #[.int .i64 x7.k, .int .i64 x7.n, stv x7.nm, .slice ao7 x7.kids.len cap7, .int .i64 x7.a] 25)).heap[w7.heap.size]? = some (.cells #[.int .i64 x7.k, .int .i64 x7.n, stv x7.nm, .slice ao7 x7.kids.len cap7, .int .i64 x7.a] 25) := heap_alloc_new w7 _
              have S5a_7b := S5a_7.allocN (.cells #[.int .i64 x7.k, .int .i64 x7.n, stv x7.nm, .slice ao7 x7.kids.len cap7, .int .i64 x7.a] 25)
              have S7a_7b := S7a.allocN (.cells #[.int .i64 x7.k, .int .i64 x7.n, stv x7.nm, .slice ao7 x7.kids.len cap7, .int .i64 x7.a] 25)
              have T7a := T7.keep ((Keep.refl rb w7).alloc (.cells #[.int .i64 x7.k, .int .i64 x7.n, stv x7.nm, .slice ao7 x7.kids.len cap7, .int .i64 x7.a] 25))
              have hb7 : rb < w7.heap.size := by have := K7.size; omega
              clear K7 Z7 Q_7 Y5_7 S5a_7 S7a T7 h7
              rw [exV_out]
              have c8 := leave_r h7a ho
              go_wp2_with fail
              refine c8.mono ?_
              rintro e w8 ⟨rfl, h8, k8⟩
              clear c8
              have Z8 := k8.blk Z7a (by have := K7a.size; omega)
              have K8 := K7a.trans k8
              have Q_8 := k8.blk Q_7a (by omega)
              have Y5_8 := k8.blk Y5_7a (by omega)
              have Y7_8 := k8.blk Y7_a (by omega)
              have S5a_8 := S5a_7b.keepN k8 (by omega)
              have S7a_8 := S7a_7b.keepN k8 (by omega)
              have T8 := T7a.keep k8
              clear K7a Q_7a Y5_7a Y7_a S5a_7b S7a_7b T7a Z7a
              obtain ⟨d2, d3, df, -, hs3⟩ := h8.cells
              have h9 := hs3 q
              rw [eq1] at d3
              have k9 := (Keep.refl rb w8).set ⟨rb, 3, none⟩ (.int .i64 (q : Nat)) (.inr rfl)
              have Z9 := k9.blk Z8 (by have := K8.size; omega)
              have K9 := K8.trans k9
              have Q_9 := k9.blk Q_8 (by omega)
              have Y5_9 := k9.blk Y5_8 (by omega)
              have Y7_9 := k9.blk Y7_8 (by omega)
              have S5a_9 := S5a_8.keepN k9 (by omega)
              have S7a_9 := S7a_8.keepN k9 (by omega)
              have T9 := T8.keep k9
              clear K8 Q_8 Y5_8 Y7_8 S5a_8 S7a_8 T8 Z8
              go_upto_region 12 with fail
              clear hs3 k9 d2 d3 df
              generalize w8.setCell ⟨rb, 3, none⟩ (.int .i64 (q : Nat)) = w9 at *
              have NS : Sl (World.alloc w9 (.cells [.int .i64 se.k, .int .i64 se.n, stv se.nm, .slice ao5 se.kids.len cap5, .int .i64 se.a, .int .i64 x7.k, .int .i64 x7.n, stv x7.nm, .slice ao7 x7.kids.len cap7, .int .i64 x7.a].toArray 25)) (Nw (w.heap.size + 2)) ((one se).snoc x7) (some ⟨w9.heap.size, 0, none⟩) := Sl.fresh _ 25 (Fc.app (Fc.one (e := se) cap5 S5a_9) (Fc.one (e := x7) cap7 S7a_9)) (by have := lt_of_block Z9; omega)
              have KF := K9.alloc (.cells [.int .i64 se.k, .int .i64 se.n, stv se.nm, .slice ao5 se.kids.len cap5, .int .i64 se.a, .int .i64 x7.k, .int .i64 x7.n, stv x7.nm, .slice ao7 x7.kids.len cap7, .int .i64 x7.a].toArray 25)
              have RF := h9.alloc (.cells [.int .i64 se.k, .int .i64 se.n, stv se.nm, .slice ao5 se.kids.len cap5, .int .i64 se.a, .int .i64 x7.k, .int .i64 x7.n, stv x7.nm, .slice ao7 x7.kids.len cap7, .int .i64 x7.a].toArray 25)
              have ZF := (Below.heap_alloc w9 (.cells [.int .i64 se.k, .int .i64 se.n, stv se.nm, .slice ao5 se.kids.len cap5, .int .i64 se.a, .int .i64 x7.k, .int .i64 x7.n, stv x7.nm, .slice ao7 x7.kids.len cap7, .int .i64 x7.a].toArray 25) _ (lt_of_block Z9)).trans Z9
              have KE := KF.set5 (b := (w.heap.size + 1)) (by omega) (.int .i64 21) (.int .i64 (n : Nat)) (stv y.t) (.slice (some ⟨w9.heap.size, 0, none⟩) 2 2) (.int .i64 a0)
              have RE := RF.set5 (b := (w.heap.size + 1)) (by omega) (.int .i64 21) (.int .i64 (n : Nat)) (stv y.t) (.slice (some ⟨w9.heap.size, 0, none⟩) 2 2) (.int .i64 a0)
              have ZE := set5k (.int .i64 21) (.int .i64 (n : Nat)) (stv y.t) (.slice (some ⟨w9.heap.size, 0, none⟩) 2 2) (.int .i64 a0) ZF
              have SE : Sl _ (Nw w.heap.size) _ _ := (NS.set5 (b := (w.heap.size + 1)) (by omega) (.int .i64 21) (.int .i64 (n : Nat)) (stv y.t) (.slice (some ⟨w9.heap.size, 0, none⟩) 2 2) (.int .i64 a0)).low (by omega)
              obtain ⟨z0, z1, z2, z3, z4, zf⟩ := box5 ZF
              obtain ⟨u0, u1, u2, u3, u4, -⟩ := box5 ZE
              obtain ⟨y00, y01, y0f⟩ := Blk.cells2 (o := fun _ => 0) (i := 0) ⟨Q_9, rfl⟩
              obtain ⟨y10, y11, y12, y13, y14, y1f⟩ := box5 Y5_9
              obtain ⟨y20, y21, y22, y23, y24, y2f⟩ := box5 Y7_9
              have FIN : Hid (W = .ok ⟨21, (n : Nat), y.t, a0, ((one se).snoc x7)⟩ t7) := by show W = _; rw [HW.out]; simp only [hr2, hr3, hr4, hr5, hr6, hr7, Rs.bind]
              clear HW ZE ZF KF RF NS K9 Z9 h9 T9 Q_9 Y5_9 Y7_9 S5a_9 S7a_9
              go_wp2
              exact bodyPost_ret (v := exV ⟨21, (n : Nat), y.t, a0, ((one se).snoc x7)⟩ (some ⟨w9.heap.size, 0, none⟩) 2) (by simp [results, Tryz.results147, go_sem, u0, u1, u2, u3, u4, exV]; rfl) rfl (by rw [FIN.out]; exact ⟨_, _, rfl, SE, RE, KE⟩)
end Go.Proofs.YtafnlhnenmpfoaaGreatDoor
