/- The reader: a set. -/
import Derived.Test.YtlmeonpdjcophaaDoorSynI
import Derived.Deep.RegionHeld3
namespace Go.Proofs.YtlmeonpdjcophaaDoor
open Go.ChangeShapes Go.WideShapes Go.ChangeAt Go.RowKit
set_option linter.unusedVariables false
set_option linter.unusedSimpArgs false

theorem heap_set5 (w : World) (b k : Nat) (b0 b1 b2 b3 b4 : Value) (h : k ≠ b) : (((((w.setCell ⟨b, 0, none⟩ b0).setCell ⟨b, 1, none⟩ b1).setCell ⟨b, 2, none⟩ b2).setCell ⟨b, 3, none⟩ b3).setCell ⟨b, 4, none⟩ b4).heap[k]? = w.heap[k]? :=
  (heap_setCell_other _ ⟨b, 4, none⟩ k b4 h).trans ((heap_setCell_other _ ⟨b, 3, none⟩ k b3 h).trans ((heap_setCell_other _ ⟨b, 2, none⟩ k b2 h).trans ((heap_setCell_other _ ⟨b, 1, none⟩ k b1 h).trans (heap_setCell_other w ⟨b, 0, none⟩ k b0 h))))
set_option maxRecDepth 100000 in
set_option maxHeartbeats 2000000 in
theorem set_r {rec : Rdr} (R : RecOk rec) {w : World} {rb o q : Nat} {ts : List Tk} (m : Nat) (hm : m ≤ 1000000) (ho : o ≤ 64) (hq : q ≤ 4) (h : RdS w rb o q ts) (T : Tabs rb w) (hn : setR rec m o q ts ≠ .out) :
    Calls Tryd.prog 86 #[.pointer (some ⟨rb, 0, none⟩)] w (PostE rb o q w (setR rec m o q ts)) := by
  obtain ⟨W, hW⟩ : ∃ W, W = setR rec m o q ts := ⟨_, rfl⟩
  rw [← hW] at hn ⊢
  have HW : Hid (W = setR rec m o q ts) := hW
  have hrb := h.lt
  have K0 : Keep rb w (w.alloc exZ) := (Keep.refl rb w).alloc _
  have Z0 : (w.alloc exZ).heap[w.heap.size]? = some exZ := heap_alloc_new w _
  have h0 := h.alloc exZ
  have T0 := T.keep K0
  clear hW
  cases ts with
  | nil => exact absurd HW.out hn
  | cons x r =>
  have c0 := token_r h0
  unfold tkV at c0
  go_enter Tryd.func86, Tryd.ntmps86
  go_wp2_with fail
  refine c0.mono ?_
  rintro e w1 ⟨rfl, b1⟩
  have k1 : Keep rb _ w1 := Keep.ofBelow b1
  have h1 := h0.below b1
  have Z1 := k1.blk Z0 (by omega)
  have K1 := K0.trans k1
  have T1 := T0.keep k1
  clear c0 b1 h0 Z0 K0 T0 k1
  have h2 := h1.alloc (.cells #[.int .i64 (x.k : Nat), .int .i64 x.n, stv x.t, .int .i64 (x.a : Nat)] 62)
  have K2 := K1.alloc (.cells #[.int .i64 (x.k : Nat), .int .i64 x.n, stv x.t, .int .i64 (x.a : Nat)] 62)
  have Z2 := (Below.heap_alloc w1 (.cells #[.int .i64 (x.k : Nat), .int .i64 x.n, stv x.t, .int .i64 (x.a : Nat)] 62) _ (lt_of_block Z1)).trans Z1
  have Y_2 : (w1.alloc (.cells #[.int .i64 (x.k : Nat), .int .i64 x.n, stv x.t, .int .i64 (x.a : Nat)] 62)).heap[w1.heap.size]? = some (.cells #[.int .i64 (x.k : Nat), .int .i64 x.n, stv x.t, .int .i64 (x.a : Nat)] 62) := heap_alloc_new w1 _
  have T2 := T1.keep ((Keep.refl rb w1).alloc (.cells #[.int .i64 (x.k : Nat), .int .i64 x.n, stv x.t, .int .i64 (x.a : Nat)] 62))
  have hb1 : rb < w1.heap.size := by have := K1.size; omega
  have hz1 : w.heap.size < w1.heap.size := lt_of_block Z1
  clear h1 K1 Z1 T1
  by_cases hk : x.k = 2
  · have hk3 : ((x.k : Int) == 2) = true := by rw [beq_iff_eq]; omega
    have HK : Hid (x.k = 2) := hk
    clear hk
    have c3 := passKind_r x.k h2 (by simp [passK])
    rw [show passK x.k (x :: r) = .ok x r by simp [passK]] at c3
    have f1 := tk_f1
    have f2 := tk_f2
    go_upto_region 3 with fail
    generalize w1.alloc (.cells #[.int .i64 (x.k : Nat), .int .i64 x.n, stv x.t, .int .i64 (x.a : Nat)] 62) = w2 at *
    generalize w1.heap.size = bt at *
    have c3 : Calls Tryd.prog 72 #[.pointer (some ⟨rb, 0, none⟩), .int .i64 (x.k : Nat)] w2 (fun e w' => e = .returned (.agg #[.int .i64 (x.k : Nat), .int .i64 x.n, stv x.t, .int .i64 (x.a : Nat)]) ∧ RdS w' rb o q r ∧ Keep rb w2 w') := c3
    have HC : Hid (∀ wx : World, wx.heap[bt]? = some (.cells #[.int .i64 (x.k : Nat), .int .i64 x.n, stv x.t, .int .i64 (x.a : Nat)] 62) → wx.cell? ⟨bt, 0, none⟩ = some (.int .i64 (x.k : Nat)) ∧ wx.cell? ⟨bt, 3, none⟩ = some (.int .i64 (x.a : Nat))) := fun wx hw => by
      obtain ⟨y0, y1, y2, y3, -⟩ := Blk.cells4 (o := fun _ => 0) (i := 0) ⟨hw, rfl⟩
      exact ⟨y0, y3⟩
    have Yd : w2.drew.heap[bt]? = some (.cells #[.int .i64 (x.k : Nat), .int .i64 x.n, stv x.t, .int .i64 (x.a : Nat)] 62) := Y_2
    have c4 : ∀ w' : World, w' = w2.drew → Calls Tryd.prog 72 #[.pointer (some ⟨rb, 0, none⟩), .int .i64 (x.k : Nat)] w' (fun e w3 => e = .returned (.agg #[.int .i64 (x.k : Nat), .int .i64 x.n, stv x.t, .int .i64 (x.a : Nat)]) ∧ RdS w3 rb o q r ∧ Keep rb w2 w3) := fun w' hw' => by
      subst hw'
      have hd : RdS w2.drew rb o q (x :: r) := h2
      have := passKind_r x.k hd (by simp [passK])
      rw [show passK x.k (x :: r) = .ok x r by simp [passK]] at this
      refine Calls.mono this ?_
      rintro e w3 ⟨a, b, k⟩
      exact ⟨a, b, ⟨k.os, k.tape, k.output, k.size, k.block⟩⟩
    clear c3
    have FIN : Hid (W = .ok ⟨23, 0, x.t, x.a, .nil⟩ r) := by show W = _; rw [HW.out]; simp only [setR]; simp [HK.out]
    clear HW HK hk3
    go_region_held3 (fun wx => wx.cell? ⟨bt, 0, none⟩ = some (.int .i64 (x.k : Nat)) ∧ wx.cell? ⟨bt, 3, none⟩ = some (.int .i64 (x.a : Nat))) (first | (with_reducible exact HC.out _ Yd) | (with_reducible exact HC.out _ Y3) | (with_reducible exact HC.out _ Y4)) ((go_at_call 72; refine (c4 _ rfl).mono ?_; rintro e w3 ⟨rfl, h3, k3⟩; have Y3 := k3.blk Y_2 (by omega); have Z3 := k3.blk Z2 (by omega); obtain ⟨z0, z1, z2, z3, z4, zf⟩ := box5 Z3; have Y4 := (heap_set5 w3 w.heap.size bt (.int .i64 23) (.int .i64 0) (stv x.t) (.slice none 0 0) (.int .i64 x.a) (by omega)).trans Y3))
    all_goals
      have K3 := K2.trans k3
      have KE := K3.set5 (Nat.le_refl _) (.int .i64 23) (.int .i64 0) (stv x.t) (.slice none 0 0) (.int .i64 x.a)
      have RE := h3.set5 hrb (.int .i64 23) (.int .i64 0) (stv x.t) (.slice none 0 0) (.int .i64 x.a)
      have ZE := set5k (.int .i64 23) (.int .i64 0) (stv x.t) (.slice none 0 0) (.int .i64 x.a) Z3
      obtain ⟨u0, u1, u2, u3, u4, -⟩ := box5 ZE
      clear HC Yd Y3 Z3 Y4 K3 K2 h2 Z2 Y_2 T2 T ZE c4
      go_wp2
      exact bodyPost_ret (v := exV ⟨23, 0, x.t, x.a, .nil⟩ none 0) (by simp [results, Tryd.results86, go_sem, u0, u1, u2, u3, u4, exV, Fs.len]) rfl (by rw [FIN.out]; exact ⟨_, _, rfl, Sl.nil _ _ _, RE, KE⟩)
  have hk3 : ((x.k : Int) == 2) = false := by rw [beq_eq_false_iff_ne]; omega
  by_cases hv : x.t = [118, 101, 114, 116, 105, 99, 101, 115]
  · have hv2 : (x.t == [118, 101, 114, 116, 105, 99, 101, 115]) = true := by simpa using hv
    have HV : Hid (x.t = [118, 101, 114, 116, 105, 99, 101, 115]) := hv
    clear hv
    have c3 := pass_r [118, 101, 114, 116, 105, 99, 101, 115] h2 (by simp [passT, HV.out])
    rw [show passT [118, 101, 114, 116, 105, 99, 101, 115] (x :: r) = .ok x.a r by simp [passT, HV.out]] at c3
    have c3 : Calls _ _ _ _ (fun e w' => e = .returned (.int .i64 (x.a : Nat)) ∧ RdS w' rb o q r ∧ Keep rb _ w') := c3
    go_wp2_with fail
    refine c3.mono ?_
    rintro e w3 ⟨rfl, h3, k3⟩
    clear c3
    have Z3 := k3.blk Z2 (by have := K2.size; omega)
    have K3 := K2.trans k3
    have Y_3 := k3.blk Y_2 (by omega)
    have T3 := T2.keep k3
    clear K2 Y_2 T2 Z2
    have NS := True.intro
    have KF := K3
    have RF := h3
    have ZF := Z3
    have KE := KF.set5 (b := w.heap.size) (by omega) (.int .i64 22) (.int .i64 0) (stv []) (.slice none 0 0) (.int .i64 x.a)
    have RE := RF.set5 (b := w.heap.size) (by omega) (.int .i64 22) (.int .i64 0) (stv []) (.slice none 0 0) (.int .i64 x.a)
    have ZE := set5k (.int .i64 22) (.int .i64 0) (stv []) (.slice none 0 0) (.int .i64 x.a) ZF
    obtain ⟨z0, z1, z2, z3, z4, zf⟩ := box5 ZF
    obtain ⟨u0, u1, u2, u3, u4, -⟩ := box5 ZE
    obtain ⟨y00, y01, y02, y03, y0f⟩ := Blk.cells4 (o := fun _ => 0) (i := 0) ⟨Y_3, rfl⟩
    have FIN : Hid (W = .ok ⟨22, 0, [], x.a, .nil⟩ r) := by show W = _; rw [HW.out]; simp only [setR, Rs.bind]; simp [hk, HV.out]
    clear HW ZE ZF KF RF NS K3 Z3 h3 T3 Y_3
    go_wp2
    exact bodyPost_ret (v := exV ⟨22, 0, [], x.a, .nil⟩ none 0) (by simp [results, Tryd.results86, go_sem, u0, u1, u2, u3, u4, exV, Fs.len]) rfl (by rw [FIN.out]; exact ⟨_, _, rfl, Sl.nil _ _ _, RE, KE⟩)
  have hv2 : (x.t == [118, 101, 114, 116, 105, 99, 101, 115]) = false := by simpa using hv
  by_cases ha : x.t = [97, 114, 111, 117, 110, 100]
  · have ha2 : (x.t == [97, 114, 111, 117, 110, 100]) = true := by simpa using ha
    have HW1 : Hid (W = (argsR rec 1 o q r).bind fun ks t => .ok ⟨24, 0, [], x.a, ks⟩ t) := by show W = _; rw [HW.out]; simp only [setR]; simp [hk, hv, ha]
    clear HW
    have HW := HW1
    have HV : Hid (x.t = [97, 114, 111, 117, 110, 100]) := ha
    clear HW1 ha
    have c3 := pass_r [97, 114, 111, 117, 110, 100] h2 (by simp [passT, HV.out])
    rw [show passT [97, 114, 111, 117, 110, 100] (x :: r) = .ok x.a r by simp [passT, HV.out]] at c3
    have c3 : Calls _ _ _ _ (fun e w' => e = .returned (.int .i64 (x.a : Nat)) ∧ RdS w' rb o q r ∧ Keep rb _ w') := c3
    go_wp2_with fail
    refine c3.mono ?_
    rintro e w3 ⟨rfl, h3, k3⟩
    clear c3
    have Z3 := k3.blk Z2 (by have := K2.size; omega)
    have K3 := K2.trans k3
    have Y_3 := k3.blk Y_2 (by omega)
    have T3 := T2.keep k3
    clear K2 Y_2 T2 Z2
    have c4 := args_r R 1 (by omega) (by omega) ho hq h3 T3 (fun e => hn (by rw [HW.out, e]; rfl))
    go_wp2_with fail
    refine c4.mono ?_
    rintro e w4 hP
    clear c4
    cases hr4 : argsR rec 1 o q r using Rs.on with
    | out => rw [hr4] at hP; exact hP.elim
    | bad er a =>
      rw [hr4] at hP
      obtain ⟨rfl, k4⟩ := hP
      have KB := K3.trans k4
      have FIN : Hid (W = .bad er a) := by show W = _; rw [HW.out]; simp only [if_true, hr4, Rs.bind]
      clear HW
      go_wp2
      exact ⟨rfl, by rw [FIN.out]; exact And.intro rfl KB⟩
    | ok ks t4 =>
      rw [hr4] at hP
      obtain ⟨ao4, cap4, rfl, S4, h4, k4⟩ := hP
      have S4a := S4.low (show (w.heap.size + 1) ≤ _ from (by have := lt_of_block Z3; omega))
      clear S4
      have Z4 := k4.blk Z3 (by have := K3.size; omega)
      have K4 := K3.trans k4
      have Y_4 := k4.blk Y_3 (by omega)
      have T4 := T3.keep k4
      clear K3 Y_3 T3 Z3
      have NS := S4a
      have KF := K4
      have RF := h4
      have ZF := Z4
      have KE := KF.set5 (b := w.heap.size) (by omega) (.int .i64 24) (.int .i64 0) (stv []) (.slice ao4 ks.len cap4) (.int .i64 x.a)
      have RE := RF.set5 (b := w.heap.size) (by omega) (.int .i64 24) (.int .i64 0) (stv []) (.slice ao4 ks.len cap4) (.int .i64 x.a)
      have ZE := set5k (.int .i64 24) (.int .i64 0) (stv []) (.slice ao4 ks.len cap4) (.int .i64 x.a) ZF
      have SE : Sl _ (Nw w.heap.size) _ _ := (NS.set5 (b := w.heap.size) (by omega) (.int .i64 24) (.int .i64 0) (stv []) (.slice ao4 ks.len cap4) (.int .i64 x.a)).low (by omega)
      obtain ⟨z0, z1, z2, z3, z4, zf⟩ := box5 ZF
      obtain ⟨u0, u1, u2, u3, u4, -⟩ := box5 ZE
      obtain ⟨y00, y01, y02, y03, y0f⟩ := Blk.cells4 (o := fun _ => 0) (i := 0) ⟨Y_4, rfl⟩
      have FIN : Hid (W = .ok ⟨24, 0, [], x.a, ks⟩ t4) := by show W = _; rw [HW.out]; simp only [hr4, Rs.bind]
      clear HW ZE ZF KF RF NS K4 Z4 h4 T4 Y_4 S4a
      go_wp2
      exact bodyPost_ret (v := exV ⟨24, 0, [], x.a, ks⟩ ao4 cap4) (by simp [results, Tryd.results86, go_sem, u0, u1, u2, u3, u4, exV]) rfl (by rw [FIN.out]; exact ⟨_, _, rfl, SE, RE, KE⟩)
  have ha2 : (x.t == [97, 114, 111, 117, 110, 100]) = false := by simpa using ha
  have HW1 : Hid (W = (enterT [123] o (x :: r)).bind fun a t1 => (memR rec m (o + 1) q t1).bind fun ks t2 => (passT [125] t2).bind fun _ t3 => .ok ⟨25, 0, [], a, ks⟩ t3) := by show W = _; rw [HW.out]; simp only [setR]; simp [hk, hv, ha]
  clear HW
  have HW := HW1
  clear HW1
  have c3 := enter_r [123] h2 ho (fun e => hn (by rw [HW.out, e]; rfl))
  go_wp2_with fail
  refine c3.mono ?_
  rintro e w3 hP
  clear c3
  cases hr3 : enterT [123] o (x :: r) using Rs.on with
  | out => rw [hr3] at hP; exact hP.elim
  | bad er a =>
    rw [hr3] at hP
    obtain ⟨rfl, k3⟩ := hP
    have KB := K2.trans k3
    have FIN : Hid (W = .bad er a) := by show W = _; rw [HW.out]; simp only [if_true, hr3, Rs.bind]
    clear HW
    go_wp2
    exact ⟨rfl, by rw [FIN.out]; exact And.intro rfl KB⟩
  | ok a0 t3 =>
    rw [hr3] at hP
    obtain ⟨rfl, h3, k3⟩ := hP
    have Z3 := k3.blk Z2 (by have := K2.size; omega)
    have K3 := K2.trans k3
    have Y_3 := k3.blk Y_2 (by omega)
    have T3 := T2.keep k3
    clear K2 Y_2 T2 Z2
    have ho1 := enter_le hr3 ho
    have c4 := mem_r R m hm ho1 hq h3 T3 (fun e => hn (by rw [HW.out]; simp only [hr3, e, Rs.bind]))
    go_wp2_with fail
    refine c4.mono ?_
    rintro e w4 hP
    clear c4
    cases hr4 : memR rec m (o + 1) q t3 using Rs.on with
    | out => rw [hr4] at hP; exact hP.elim
    | bad er a =>
      rw [hr4] at hP
      obtain ⟨rfl, k4⟩ := hP
      have KB := K3.trans k4
      have FIN : Hid (W = .bad er a) := by show W = _; rw [HW.out]; simp only [hr3, hr4, Rs.bind]
      clear HW
      go_wp2
      exact ⟨rfl, by rw [FIN.out]; exact And.intro rfl KB⟩
    | ok ks t4 =>
      rw [hr4] at hP
      obtain ⟨ao4, cap4, rfl, S4, h4, k4⟩ := hP
      have S4a := S4.low (show (w.heap.size + 1) ≤ _ from (by have := lt_of_block Z3; omega))
      clear S4
      have Z4 := k4.blk Z3 (by have := K3.size; omega)
      have K4 := K3.trans k4
      have Y_4 := k4.blk Y_3 (by omega)
      have T4 := T3.keep k4
      clear K3 Y_3 T3 Z3
      have c5 := pass_r [125] h4 (fun e => hn (by rw [HW.out]; simp only [hr3, hr4, e, Rs.bind]))
      go_wp2_with fail
      refine c5.mono ?_
      rintro e w5 hP
      clear c5
      cases hr5 : passT [125] t4 using Rs.on with
      | out => rw [hr5] at hP; exact hP.elim
      | bad er a =>
        rw [hr5] at hP
        obtain ⟨rfl, k5⟩ := hP
        have KB := K4.trans k5
        have FIN : Hid (W = .bad er a) := by show W = _; rw [HW.out]; simp only [hr3, hr4, hr5, Rs.bind]
        clear HW
        go_wp2
        exact ⟨rfl, by rw [FIN.out]; exact And.intro rfl KB⟩
      | ok x5 t5 =>
        rw [hr5] at hP
        obtain ⟨rfl, h5, k5⟩ := hP
        have Z5 := k5.blk Z4 (by have := K4.size; omega)
        have K5 := K4.trans k5
        have Y_5 := k5.blk Y_4 (by omega)
        have S4a_5 := S4a.keepN k5 (by omega)
        have T5 := T4.keep k5
        clear K4 Y_4 S4a T4 Z4
        have c6 := leave_r h5 ho
        go_wp2_with fail
        refine c6.mono ?_
        rintro e w6 ⟨rfl, h6, k6⟩
        clear c6
        have Z6 := k6.blk Z5 (by have := K5.size; omega)
        have K6 := K5.trans k6
        have Y_6 := k6.blk Y_5 (by omega)
        have S4a_6 := S4a_5.keepN k6 (by omega)
        have T6 := T5.keep k6
        clear K5 Y_5 S4a_5 T5 Z5
        have NS := S4a_6
        have KF := K6
        have RF := h6
        have ZF := Z6
        have KE := KF.set5 (b := w.heap.size) (by omega) (.int .i64 25) (.int .i64 0) (stv []) (.slice ao4 ks.len cap4) (.int .i64 a0)
        have RE := RF.set5 (b := w.heap.size) (by omega) (.int .i64 25) (.int .i64 0) (stv []) (.slice ao4 ks.len cap4) (.int .i64 a0)
        have ZE := set5k (.int .i64 25) (.int .i64 0) (stv []) (.slice ao4 ks.len cap4) (.int .i64 a0) ZF
        have SE : Sl _ (Nw w.heap.size) _ _ := (NS.set5 (b := w.heap.size) (by omega) (.int .i64 25) (.int .i64 0) (stv []) (.slice ao4 ks.len cap4) (.int .i64 a0)).low (by omega)
        obtain ⟨z0, z1, z2, z3, z4, zf⟩ := box5 ZF
        obtain ⟨u0, u1, u2, u3, u4, -⟩ := box5 ZE
        obtain ⟨y00, y01, y02, y03, y0f⟩ := Blk.cells4 (o := fun _ => 0) (i := 0) ⟨Y_6, rfl⟩
        have FIN : Hid (W = .ok ⟨25, 0, [], a0, ks⟩ t5) := by show W = _; rw [HW.out]; simp only [hr3, hr4, hr5, Rs.bind]
        clear HW ZE ZF KF RF NS K6 Z6 h6 T6 Y_6 S4a_6
        go_wp2
        exact bodyPost_ret (v := exV ⟨25, 0, [], a0, ks⟩ ao4 cap4) (by simp [results, Tryd.results86, go_sem, u0, u1, u2, u3, u4, exV]) rfl (by rw [FIN.out]; exact ⟨_, _, rfl, SE, RE, KE⟩)
end Go.Proofs.YtlmeonpdjcophaaDoor
