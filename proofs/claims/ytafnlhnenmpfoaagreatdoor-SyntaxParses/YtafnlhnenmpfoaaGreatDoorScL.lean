/- The program's reader, with room for each list (mkcap.py writes this text out of SynL). -/
import Derived.Test.YtafnlhnenmpfoaaGreatDoorScK
import Derived.Deep.RegionHeld3
import Derived.Deep.RegionWith
namespace Go.Proofs.YtafnlhnenmpfoaaGreatDoor
open Go.ChangeShapes Go.WideShapes Go.ChangeAt Go.RowKit
set_option linter.unusedVariables false
set_option linter.unusedSimpArgs false

set_option maxRecDepth 100000 in
set_option maxHeartbeats 2000000 in
theorem atom_rc {rec : Rdr} (R : RecOkc rec) {w : World} {rb o q : Nat} {ts : List Tk} (m : Nat) (hm : m ≤ 1000000) (ho : o ≤ 64) (hq : q ≤ 4) (h : RdS w rb o q ts) (T : Tabs rb w) (hn : atomR rec m o q ts ≠ .out) :
    Calls Tryz.prog 122 #[.pointer (some ⟨rb, 0, none⟩)] w (PostEc rb o q w (atomR rec m o q ts)) := by
  obtain ⟨W, hW⟩ : ∃ W, W = atomR rec m o q ts := ⟨_, rfl⟩
  rw [← hW] at hn ⊢
  have HW : Hid (W = atomR rec m o q ts) := hW
  have hrb := h.lt
  have K0 : Keep rb w (w.alloc exZ) := (Keep.refl rb w).alloc _
  have Z0 : (w.alloc exZ).heap[w.heap.size]? = some exZ := heap_alloc_new w _
  have h0 := h.alloc exZ
  have T0 := T.keep K0
  clear hW
  cases ts with
  | nil => exact absurd HW.out hn
  | cons x r =>
  have c0 := token_r h0
  unfold tkV at c0
  go_enter Tryz.func122, Tryz.ntmps122
  go_wp2_with fail
  refine c0.mono ?_
  rintro e w1 ⟨rfl, b1⟩
  have k1 : Keep rb _ w1 := Keep.ofBelow b1
  have h1 := h0.below b1
  have Z1 := k1.blk Z0 (by omega)
  have K1 := K0.trans k1
  have T1 := T0.keep k1
  clear c0 b1 h0 Z0 K0 T0 k1
  have h2 := h1.alloc (.cells #[.int .i64 (x.k : Nat), .int .i64 x.n, stv x.t, .int .i64 (x.a : Nat)] 47)
  have K2 := K1.alloc (.cells #[.int .i64 (x.k : Nat), .int .i64 x.n, stv x.t, .int .i64 (x.a : Nat)] 47)
  have Z2 := (Below.heap_alloc w1 (.cells #[.int .i64 (x.k : Nat), .int .i64 x.n, stv x.t, .int .i64 (x.a : Nat)] 47) _ (lt_of_block Z1)).trans Z1
  have Y_2 : (w1.alloc (.cells #[.int .i64 (x.k : Nat), .int .i64 x.n, stv x.t, .int .i64 (x.a : Nat)] 47)).heap[w1.heap.size]? = some (.cells #[.int .i64 (x.k : Nat), .int .i64 x.n, stv x.t, .int .i64 (x.a : Nat)] 47) := heap_alloc_new w1 _
  have T2 := T1.keep ((Keep.refl rb w1).alloc (.cells #[.int .i64 (x.k : Nat), .int .i64 x.n, stv x.t, .int .i64 (x.a : Nat)] 47))
  have hb1 : rb < w1.heap.size := by have := K1.size; omega
  have hz1 : w.heap.size < w1.heap.size := lt_of_block Z1
  clear h1 K1 Z1 T1
  by_cases hk : x.k = 1
  · have hk3 : ((x.k : Int) == 1) = true := by rw [beq_iff_eq]; omega
    have HK : Hid (x.k = 1) := hk
    clear hk
    have c3 := passKind_r x.k h2 (by simp [passK])
    rw [show passK x.k (x :: r) = .ok x r by simp [passK]] at c3
    have f1 := tk_f1
    have f2 := tk_f2
    go_upto_region 4 with fail
    generalize w1.alloc (.cells #[.int .i64 (x.k : Nat), .int .i64 x.n, stv x.t, .int .i64 (x.a : Nat)] 47) = w2 at *
    generalize w1.heap.size = bt at *
    have c3 : Calls Tryz.prog 141 #[.pointer (some ⟨rb, 0, none⟩), .int .i64 (x.k : Nat)] w2 (fun e w' => e = .returned (.agg #[.int .i64 (x.k : Nat), .int .i64 x.n, stv x.t, .int .i64 (x.a : Nat)]) ∧ RdS w' rb o q r ∧ Keep rb w2 w') := c3
    have HC : Hid (∀ wx : World, wx.heap[bt]? = some (.cells #[.int .i64 (x.k : Nat), .int .i64 x.n, stv x.t, .int .i64 (x.a : Nat)] 47) → wx.cell? ⟨bt, 0, none⟩ = some (.int .i64 (x.k : Nat)) ∧ wx.cell? ⟨bt, 3, none⟩ = some (.int .i64 (x.a : Nat))) := fun wx hw => by
      obtain ⟨y0, y1, y2, y3, -⟩ := Blk.cells4 (o := fun _ => 0) (i := 0) ⟨hw, rfl⟩
      exact ⟨y0, y3⟩
    have Yd : w2.drew.heap[bt]? = some (.cells #[.int .i64 (x.k : Nat), .int .i64 x.n, stv x.t, .int .i64 (x.a : Nat)] 47) := Y_2
    have c4 : ∀ w' : World, w' = w2.drew → Calls Tryz.prog 141 #[.pointer (some ⟨rb, 0, none⟩), .int .i64 (x.k : Nat)] w' (fun e w3 => e = .returned (.agg #[.int .i64 (x.k : Nat), .int .i64 x.n, stv x.t, .int .i64 (x.a : Nat)]) ∧ RdS w3 rb o q r ∧ Keep rb w2 w3) := fun w' hw' => by
      subst hw'
      have hd : RdS w2.drew rb o q (x :: r) := h2
      have := passKind_r x.k hd (by simp [passK])
      rw [show passK x.k (x :: r) = .ok x r by simp [passK]] at this
      refine Calls.mono this ?_
      rintro e w3 ⟨a, b, k⟩
      exact ⟨a, b, ⟨k.os, k.tape, k.output, k.size, k.block⟩⟩
    clear c3
    have FIN : Hid (W = .ok ⟨1, x.n, [], x.a, .nil⟩ r) := by show W = _; rw [HW.out]; simp only [atomR]; simp [HK.out]
    clear HW HK hk3
    go_region_held3 (fun wx => wx.cell? ⟨bt, 0, none⟩ = some (.int .i64 (x.k : Nat)) ∧ wx.cell? ⟨bt, 3, none⟩ = some (.int .i64 (x.a : Nat))) (first | (with_reducible exact HC.out _ Yd) | (with_reducible exact HC.out _ Y3) | (with_reducible exact HC.out _ Y4)) ((go_at_call 141; refine (c4 _ rfl).mono ?_; rintro e w3 ⟨rfl, h3, k3⟩; have Y3 := k3.blk Y_2 (by omega); have Z3 := k3.blk Z2 (by omega); obtain ⟨z0, z1, z2, z3, z4, zf⟩ := box5 Z3; have Y4 := (heap_set5 w3 w.heap.size bt (.int .i64 1) (.int .i64 x.n) (stv []) (.slice none 0 0) (.int .i64 x.a) (by omega)).trans Y3))
    all_goals
      have K3 := K2.trans k3
      have KE := K3.set5 (Nat.le_refl _) (.int .i64 1) (.int .i64 x.n) (stv []) (.slice none 0 0) (.int .i64 x.a)
      have RE := h3.set5 hrb (.int .i64 1) (.int .i64 x.n) (stv []) (.slice none 0 0) (.int .i64 x.a)
      have ZE := set5k (.int .i64 1) (.int .i64 x.n) (stv []) (.slice none 0 0) (.int .i64 x.a) Z3
      obtain ⟨u0, u1, u2, u3, u4, -⟩ := box5 ZE
      clear HC Yd Y3 Z3 Y4 K3 K2 h2 Z2 Y_2 T2 T ZE c4
      go_wp2
      exact bodyPost_ret (v := exV ⟨1, x.n, [], x.a, .nil⟩ none 0) (by simp [results, Tryz.results122, go_sem, u0, u1, u2, u3, u4, exV, Fs.len]) rfl (by rw [FIN.out]; exact ⟨_, _, rfl, Slc.nil _ _, RE, KE⟩)
  have hk13 : ((x.k : Int) == 1) = false := by rw [beq_eq_false_iff_ne]; omega
  have hk1 := hk
  clear hk
  by_cases hk : x.k = 2
  · have hk3 : ((x.k : Int) == 2) = true := by rw [beq_iff_eq]; omega
    have HK : Hid (x.k = 2) := hk
    clear hk
    have c3 := passKind_r x.k h2 (by simp [passK])
    rw [show passK x.k (x :: r) = .ok x r by simp [passK]] at c3
    have f1 := tk_f1
    have f2 := tk_f2
    go_upto_region 6 with fail
    generalize w1.alloc (.cells #[.int .i64 (x.k : Nat), .int .i64 x.n, stv x.t, .int .i64 (x.a : Nat)] 47) = w2 at *
    generalize w1.heap.size = bt at *
    have c3 : Calls Tryz.prog 141 #[.pointer (some ⟨rb, 0, none⟩), .int .i64 (x.k : Nat)] w2 (fun e w' => e = .returned (.agg #[.int .i64 (x.k : Nat), .int .i64 x.n, stv x.t, .int .i64 (x.a : Nat)]) ∧ RdS w' rb o q r ∧ Keep rb w2 w') := c3
    have HC : Hid (∀ wx : World, wx.heap[bt]? = some (.cells #[.int .i64 (x.k : Nat), .int .i64 x.n, stv x.t, .int .i64 (x.a : Nat)] 47) → wx.cell? ⟨bt, 0, none⟩ = some (.int .i64 (x.k : Nat)) ∧ wx.cell? ⟨bt, 3, none⟩ = some (.int .i64 (x.a : Nat))) := fun wx hw => by
      obtain ⟨y0, y1, y2, y3, -⟩ := Blk.cells4 (o := fun _ => 0) (i := 0) ⟨hw, rfl⟩
      exact ⟨y0, y3⟩
    have Yd : w2.drew.heap[bt]? = some (.cells #[.int .i64 (x.k : Nat), .int .i64 x.n, stv x.t, .int .i64 (x.a : Nat)] 47) := Y_2
    have c4 : ∀ w' : World, w' = w2.drew → Calls Tryz.prog 141 #[.pointer (some ⟨rb, 0, none⟩), .int .i64 (x.k : Nat)] w' (fun e w3 => e = .returned (.agg #[.int .i64 (x.k : Nat), .int .i64 x.n, stv x.t, .int .i64 (x.a : Nat)]) ∧ RdS w3 rb o q r ∧ Keep rb w2 w3) := fun w' hw' => by
      subst hw'
      have hd : RdS w2.drew rb o q (x :: r) := h2
      have := passKind_r x.k hd (by simp [passK])
      rw [show passK x.k (x :: r) = .ok x r by simp [passK]] at this
      refine Calls.mono this ?_
      rintro e w3 ⟨a, b, k⟩
      exact ⟨a, b, ⟨k.os, k.tape, k.output, k.size, k.block⟩⟩
    clear c3
    have FIN : Hid (W = .ok ⟨4, 0, x.t, x.a, .nil⟩ r) := by show W = _; rw [HW.out]; simp only [atomR]; simp [HK.out]
    clear HW HK hk3
    go_region_held3 (fun wx => wx.cell? ⟨bt, 0, none⟩ = some (.int .i64 (x.k : Nat)) ∧ wx.cell? ⟨bt, 3, none⟩ = some (.int .i64 (x.a : Nat))) (first | (with_reducible exact HC.out _ Yd) | (with_reducible exact HC.out _ Y3) | (with_reducible exact HC.out _ Y4)) ((go_at_call 141; refine (c4 _ rfl).mono ?_; rintro e w3 ⟨rfl, h3, k3⟩; have Y3 := k3.blk Y_2 (by omega); have Z3 := k3.blk Z2 (by omega); obtain ⟨z0, z1, z2, z3, z4, zf⟩ := box5 Z3; have Y4 := (heap_set5 w3 w.heap.size bt (.int .i64 4) (.int .i64 0) (stv x.t) (.slice none 0 0) (.int .i64 x.a) (by omega)).trans Y3))
    all_goals
      have K3 := K2.trans k3
      have KE := K3.set5 (Nat.le_refl _) (.int .i64 4) (.int .i64 0) (stv x.t) (.slice none 0 0) (.int .i64 x.a)
      have RE := h3.set5 hrb (.int .i64 4) (.int .i64 0) (stv x.t) (.slice none 0 0) (.int .i64 x.a)
      have ZE := set5k (.int .i64 4) (.int .i64 0) (stv x.t) (.slice none 0 0) (.int .i64 x.a) Z3
      obtain ⟨u0, u1, u2, u3, u4, -⟩ := box5 ZE
      clear HC Yd Y3 Z3 Y4 K3 K2 h2 Z2 Y_2 T2 T ZE c4
      go_wp2
      exact bodyPost_ret (v := exV ⟨4, 0, x.t, x.a, .nil⟩ none 0) (by simp [results, Tryz.results122, go_sem, u0, u1, u2, u3, u4, exV, Fs.len]) rfl (by rw [FIN.out]; exact ⟨_, _, rfl, Slc.nil _ _, RE, KE⟩)
  have hk23 : ((x.k : Int) == 2) = false := by rw [beq_eq_false_iff_ne]; omega
  have hk2 := hk
  clear hk
  by_cases hf : x.t = [102, 97, 108, 115, 101]
  · have hv2 : (x.t == [102, 97, 108, 115, 101]) = true := by simpa using hf
    have HV : Hid (x.t = [102, 97, 108, 115, 101]) := hf
    clear hf
    have c3 := pass_r [102, 97, 108, 115, 101] h2 (by simp [passT, HV.out])
    rw [show passT [102, 97, 108, 115, 101] (x :: r) = .ok x.a r by simp [passT, HV.out]] at c3
    have c3 : Calls _ _ _ _ (fun e w' => e = .returned (.int .i64 (x.a : Nat)) ∧ RdS w' rb o q r ∧ Keep rb _ w') := c3
    go_wp2_with fail
    refine c3.mono ?_
    rintro e w3 ⟨rfl, h3, k3⟩
    clear c3
    have Z3 := k3.blk Z2 (by have := K2.size; omega)
    have K3 := K2.trans k3
    have Y_3 := k3.blk Y_2 (by omega)
    have T3 := T2.keep k3
    clear K2 Y_2 T2 Z2
    have NS := True.intro
    have KF := K3
    have RF := h3
    have ZF := Z3
    have KE := KF.set5 (b := w.heap.size) (by omega) (.int .i64 2) (.int .i64 0) (stv []) (.slice none 0 0) (.int .i64 x.a)
    have RE := RF.set5 (b := w.heap.size) (by omega) (.int .i64 2) (.int .i64 0) (stv []) (.slice none 0 0) (.int .i64 x.a)
    have ZE := set5k (.int .i64 2) (.int .i64 0) (stv []) (.slice none 0 0) (.int .i64 x.a) ZF
    obtain ⟨z0, z1, z2, z3, z4, zf⟩ := box5 ZF
    obtain ⟨u0, u1, u2, u3, u4, -⟩ := box5 ZE
    obtain ⟨y00, y01, y02, y03, y0f⟩ := Blk.cells4 (o := fun _ => 0) (i := 0) ⟨Y_3, rfl⟩
    have FIN : Hid (W = .ok ⟨2, 0, [], x.a, .nil⟩ r) := by show W = _; rw [HW.out]; simp only [atomR, Rs.bind]; simp [hk1, hk2, HV.out]
    clear HW ZE ZF KF RF NS K3 Z3 h3 T3 Y_3
    go_wp2
    exact bodyPost_ret (v := exV ⟨2, 0, [], x.a, .nil⟩ none 0) (by simp [results, Tryz.results122, go_sem, u0, u1, u2, u3, u4, exV, Fs.len]) rfl (by rw [FIN.out]; exact ⟨_, _, rfl, Slc.nil _ _, RE, KE⟩)
  have hf2 : (x.t == [102, 97, 108, 115, 101]) = false := by simpa using hf
  by_cases ht : x.t = [116, 114, 117, 101]
  · have hv2 : (x.t == [116, 114, 117, 101]) = true := by simpa using ht
    have HV : Hid (x.t = [116, 114, 117, 101]) := ht
    clear ht
    have c3 := pass_r [116, 114, 117, 101] h2 (by simp [passT, HV.out])
    rw [show passT [116, 114, 117, 101] (x :: r) = .ok x.a r by simp [passT, HV.out]] at c3
    have c3 : Calls _ _ _ _ (fun e w' => e = .returned (.int .i64 (x.a : Nat)) ∧ RdS w' rb o q r ∧ Keep rb _ w') := c3
    go_wp2_with fail
    refine c3.mono ?_
    rintro e w3 ⟨rfl, h3, k3⟩
    clear c3
    have Z3 := k3.blk Z2 (by have := K2.size; omega)
    have K3 := K2.trans k3
    have Y_3 := k3.blk Y_2 (by omega)
    have T3 := T2.keep k3
    clear K2 Y_2 T2 Z2
    have NS := True.intro
    have KF := K3
    have RF := h3
    have ZF := Z3
    have KE := KF.set5 (b := w.heap.size) (by omega) (.int .i64 2) (.int .i64 1) (stv []) (.slice none 0 0) (.int .i64 x.a)
    have RE := RF.set5 (b := w.heap.size) (by omega) (.int .i64 2) (.int .i64 1) (stv []) (.slice none 0 0) (.int .i64 x.a)
    have ZE := set5k (.int .i64 2) (.int .i64 1) (stv []) (.slice none 0 0) (.int .i64 x.a) ZF
    obtain ⟨z0, z1, z2, z3, z4, zf⟩ := box5 ZF
    obtain ⟨u0, u1, u2, u3, u4, -⟩ := box5 ZE
    obtain ⟨y00, y01, y02, y03, y0f⟩ := Blk.cells4 (o := fun _ => 0) (i := 0) ⟨Y_3, rfl⟩
    have FIN : Hid (W = .ok ⟨2, 1, [], x.a, .nil⟩ r) := by show W = _; rw [HW.out]; simp only [atomR, Rs.bind]; simp [hk1, hk2, hf, HV.out]
    clear HW ZE ZF KF RF NS K3 Z3 h3 T3 Y_3
    go_wp2
    exact bodyPost_ret (v := exV ⟨2, 1, [], x.a, .nil⟩ none 0) (by simp [results, Tryz.results122, go_sem, u0, u1, u2, u3, u4, exV, Fs.len]) rfl (by rw [FIN.out]; exact ⟨_, _, rfl, Slc.nil _ _, RE, KE⟩)
  have ht2 : (x.t == [116, 114, 117, 101]) = false := by simpa using ht
  by_cases hat : x.t = [64]
  · have hv2 : (x.t == [64]) = true := by simpa using hat
    have HV : Hid (x.t = [64]) := hat
    clear hat
    have HW1 : Hid (W = (passK 1 r).bind fun y t1 => .ok ⟨3, y.n, [], x.a, .nil⟩ t1) := by show W = _; rw [HW.out]; simp only [atomR]; simp [hk1, hk2, hf, ht, HV.out]
    clear HW
    have HW := HW1
    clear HW1
    have c3 := pass_r [64] h2 (by simp [passT, HV.out])
    rw [show passT [64] (x :: r) = .ok x.a r by simp [passT, HV.out]] at c3
    have c3 : Calls _ _ _ _ (fun e w' => e = .returned (.int .i64 (x.a : Nat)) ∧ RdS w' rb o q r ∧ Keep rb _ w') := c3
    go_wp2_with fail
    refine c3.mono ?_
    rintro e w3 ⟨rfl, h3, k3⟩
    clear c3
    have Z3 := k3.blk Z2 (by have := K2.size; omega)
    have K3 := K2.trans k3
    have Y_3 := k3.blk Y_2 (by omega)
    have T3 := T2.keep k3
    clear K2 Y_2 T2 Z2
    have f1 := tk_f1
    have c4 := passKind_r 1 h3 (fun e => hn (by rw [HW.out, e]; rfl))
    go_wp2_with fail
    refine c4.mono ?_
    rintro e w4 hP
    clear c4
    cases hr4 : passK 1 r using Rs.on with
    | out => rw [hr4] at hP; exact hP.elim
    | bad er a =>
      rw [hr4] at hP
      obtain ⟨rfl, k4⟩ := hP
      have KB := K3.trans k4
      have FIN : Hid (W = .bad er a) := by show W = _; rw [HW.out]; simp only [if_true, hr4, Rs.bind]
      clear HW
      go_wp2
      exact ⟨rfl, by rw [FIN.out]; exact And.intro rfl KB⟩
    | ok y t4 =>
      rw [hr4] at hP
      obtain ⟨rfl, h4, k4⟩ := hP
      have Z4 := k4.blk Z3 (by have := K3.size; omega)
      have K4 := K3.trans k4
      have Y_4 := k4.blk Y_3 (by omega)
      have T4 := T3.keep k4
      clear K3 Y_3 T3 Z3
      unfold tkV
      have NS := True.intro
      have KF := K4
      have RF := h4
      have ZF := Z4
      have KE := KF.set5 (b := w.heap.size) (by omega) (.int .i64 3) (.int .i64 y.n) (stv []) (.slice none 0 0) (.int .i64 x.a)
      have RE := RF.set5 (b := w.heap.size) (by omega) (.int .i64 3) (.int .i64 y.n) (stv []) (.slice none 0 0) (.int .i64 x.a)
      have ZE := set5k (.int .i64 3) (.int .i64 y.n) (stv []) (.slice none 0 0) (.int .i64 x.a) ZF
      obtain ⟨z0, z1, z2, z3, z4, zf⟩ := box5 ZF
      obtain ⟨u0, u1, u2, u3, u4, -⟩ := box5 ZE
      obtain ⟨y00, y01, y02, y03, y0f⟩ := Blk.cells4 (o := fun _ => 0) (i := 0) ⟨Y_4, rfl⟩
      have FIN : Hid (W = .ok ⟨3, y.n, [], x.a, .nil⟩ t4) := by show W = _; rw [HW.out]; simp only [hr4, Rs.bind]
      clear HW ZE ZF KF RF NS K4 Z4 h4 T4 Y_4
      go_wp2
      exact bodyPost_ret (v := exV ⟨3, y.n, [], x.a, .nil⟩ none 0) (by simp [results, Tryz.results122, go_sem, u0, u1, u2, u3, u4, exV, Fs.len]) rfl (by rw [FIN.out]; exact ⟨_, _, rfl, Slc.nil _ _, RE, KE⟩)
  have hat2 : (x.t == [64]) = false := by simpa using hat
  by_cases hp : x.t = [40]
  · have hv2 : (x.t == [40]) = true := by simpa using hp
    have HV : Hid (x.t = [40]) := hp
    clear hp
    have HW1 : Hid (W = (argsR rec 1 o q (x :: r)).bind fun ks t1 => .ok ks.head t1) := by show W = _; rw [HW.out]; simp only [atomR]; simp [hk1, hk2, hf, ht, hat, HV.out]
    clear HW
    have HW := HW1
    clear HW1
    have c3 := args_rc R 1 (by omega) (by omega) ho hq h2 T2 (fun e => hn (by rw [HW.out, e]; rfl))
    go_wp2_with fail
    refine c3.mono ?_
    rintro e w3 hP
    clear c3
    cases hr3 : argsR rec 1 o q (x :: r) using Rs.on with
    | out => rw [hr3] at hP; exact hP.elim
    | bad er a =>
      rw [hr3] at hP
      obtain ⟨rfl, k3⟩ := hP
      have KB := K2.trans k3
      have FIN : Hid (W = .bad er a) := by show W = _; rw [HW.out]; simp only [if_true, hr3, Rs.bind]
      clear HW
      go_wp2
      exact ⟨rfl, by rw [FIN.out]; exact And.intro rfl KB⟩
    | ok ks t3 =>
      rw [hr3] at hP
      obtain ⟨ao3, cap3, rfl, S3, h3, k3⟩ := hP
      have S3a := S3.low (show (w.heap.size + 1) ≤ _ from (by have := lt_of_block Z2; omega))
      clear S3
      have Z3 := k3.blk Z2 (by have := K2.size; omega)
      have K3 := K2.trans k3
      have Y_3 := k3.blk Y_2 (by omega)
      have T3 := T2.keep k3
      clear K2 Y_2 T2 Z2
      obtain ⟨y, hy⟩ := args_one hr3
      subst hy
      obtain ⟨bk, off, ae, ce, rfl, g0, g1, g2, g3, g4, SK⟩ := S3a.first
      have KE := K3.set5 (b := w.heap.size) (by omega) (.int .i64 y.k) (.int .i64 y.n) (stv y.nm) (.slice ae y.kids.len ce) (.int .i64 y.a)
      have RE := h3.set5 (b := w.heap.size) (by omega) (.int .i64 y.k) (.int .i64 y.n) (stv y.nm) (.slice ae y.kids.len ce) (.int .i64 y.a)
      have ZE := set5k (.int .i64 y.k) (.int .i64 y.n) (stv y.nm) (.slice ae y.kids.len ce) (.int .i64 y.a) Z3
      have SE : Slc _ (Nw w.heap.size) _ _ _ := (SK.set5 (b := w.heap.size) (by omega) (.int .i64 y.k) (.int .i64 y.n) (stv y.nm) (.slice ae y.kids.len ce) (.int .i64 y.a)).low (by omega)
      obtain ⟨z0, z1, z2, z3, z4, zf⟩ := box5 Z3
      obtain ⟨u0, u1, u2, u3, u4, -⟩ := box5 ZE
      have FIN : Hid (W = .ok y t3) := by show W = _; rw [HW.out, hr3]; rfl
      have hl1 : (one y).len = 1 := rfl
      rw [hl1]
      clear HW ZE hr3 SK K3 Z3 h3 T3 Y_3 S3a
      go_wp2
      exact bodyPost_ret (v := exV y ae ce) (by simp [results, Tryz.results122, go_sem, u0, u1, u2, u3, u4, exV]) rfl (by rw [FIN.out]; exact ⟨_, _, rfl, SE, RE, KE⟩)
  have hp2 : (x.t == [40]) = false := by simpa using hp
  by_cases hi : x.t = [105, 102]
  · have hv2 : (x.t == [105, 102]) = true := by simpa using hi
    have HV : Hid (x.t = [105, 102]) := hi
    clear hi
    have HW1 : Hid (W = choiceR rec o q (x :: r)) := by show W = _; rw [HW.out]; simp only [atomR]; simp [hk1, hk2, hf, ht, hat, hp, HV.out]
    clear HW
    have HW := HW1
    clear HW1
    have c3 := choice_rc R ho hq h2 T2 (fun e => hn (by rw [HW.out, e]))
    go_wp2_with fail
    refine c3.mono ?_
    rintro e w3 hP
    clear c3
    cases hr3 : choiceR rec o q (x :: r) using Rs.on with
    | out => rw [hr3] at hP; exact hP.elim
    | bad er a =>
      rw [hr3] at hP
      obtain ⟨rfl, k3⟩ := hP
      have KB := K2.trans k3
      have FIN : Hid (W = .bad er a) := by show W = _; rw [HW.out]; simp only [if_true, hr3, Rs.bind]
      clear HW
      go_wp2
      exact ⟨rfl, by rw [FIN.out]; exact And.intro rfl KB⟩
    | ok y t3 =>
      rw [hr3] at hP
      obtain ⟨ao3, cap3, rfl, S3, h3, k3⟩ := hP
      have S3a := S3.low (show (w.heap.size + 1) ≤ _ from (by have := lt_of_block Z2; omega))
      clear S3
      have Z3 := k3.blk Z2 (by have := K2.size; omega)
      have K3 := K2.trans k3
      have Y_3 := k3.blk Y_2 (by omega)
      have T3 := T2.keep k3
      clear K2 Y_2 T2 Z2
      have KE := K3.set5 (b := w.heap.size) (by omega) (.int .i64 y.k) (.int .i64 y.n) (stv y.nm) (.slice ao3 y.kids.len cap3) (.int .i64 y.a)
      have RE := h3.set5 (b := w.heap.size) (by omega) (.int .i64 y.k) (.int .i64 y.n) (stv y.nm) (.slice ao3 y.kids.len cap3) (.int .i64 y.a)
      have ZE := set5k (.int .i64 y.k) (.int .i64 y.n) (stv y.nm) (.slice ao3 y.kids.len cap3) (.int .i64 y.a) Z3
      have SE : Slc _ (Nw w.heap.size) _ _ _ := (S3a.set5 (b := w.heap.size) (by omega) (.int .i64 y.k) (.int .i64 y.n) (stv y.nm) (.slice ao3 y.kids.len cap3) (.int .i64 y.a)).low (by omega)
      obtain ⟨z0, z1, z2, z3, z4, zf⟩ := box5 Z3
      obtain ⟨u0, u1, u2, u3, u4, -⟩ := box5 ZE
      have FIN : Hid (W = .ok y t3) := by show W = _; rw [HW.out]; simp only [hr3, Rs.bind]
      clear HW ZE K3 Z3 h3 T3 Y_3 S3a
      rw [exV_out]
      go_wp2
      exact bodyPost_ret (v := exV y ao3 cap3) (by simp [results, Tryz.results122, go_sem, u0, u1, u2, u3, u4, exV]) rfl (by rw [FIN.out]; exact ⟨_, _, rfl, SE, RE, KE⟩)
  have hi2 : (x.t == [105, 102]) = false := by simpa using hi
  have c3 := callAt_r x.t _ T2.cl
  go_wp2_with fail
  refine c3.mono ?_
  rintro e w3 ⟨rfl, b3⟩
  have k3 : Keep rb _ w3 := Keep.ofBelow b3
  have h3 := h2.below b3
  have Z3 := k3.blk Z2 (by omega)
  have K3 := K2.trans k3
  have Y_3 := k3.blk Y_2 (by omega)
  have T3 := T2.keep k3
  clear c3 b3 h2 Z2 K2 Y_2 T2 k3
  have hz3 : w.heap.size < w3.heap.size := lt_of_block Z3
  have hb3 : rb < w3.heap.size := by omega
  cases hc : callAt x.t with
  | some z =>
    obtain ⟨hz0, hz4, hz5⟩ := callAt_ok hc
    have HV : Hid (x.t = z.1) := hz0.symm
    have HW1 : Hid (W = (argsR rec z.2.2 o q r).bind fun ks t1 => .ok ⟨20, (z.2.1 : Nat), [], x.a, ks⟩ t1) := by show W = _; rw [HW.out]; simp only [atomR]; simp [hk1, hk2, hf, ht, hat, hp, hi, hc]
    clear HW hz0
    have HW := HW1
    clear HW1
    rw [show callsL.find? (fun y => y.1 == x.t) = some z from hc]
    unfold clF
    simp only
    have h4 := h3.alloc (.cells #[stv z.1, .int .i64 (z.2.1 : Nat), .int .i64 (z.2.2 : Nat)] 121)
    have K4 := K3.alloc (.cells #[stv z.1, .int .i64 (z.2.1 : Nat), .int .i64 (z.2.2 : Nat)] 121)
    have Z4 := (Below.heap_alloc w3 (.cells #[stv z.1, .int .i64 (z.2.1 : Nat), .int .i64 (z.2.2 : Nat)] 121) _ (lt_of_block Z3)).trans Z3
    have Y_4 := (Below.heap_alloc w3 (.cells #[stv z.1, .int .i64 (z.2.1 : Nat), .int .i64 (z.2.2 : Nat)] 121) _ (lt_of_block Y_3)).trans Y_3
    have C_4 : (w3.alloc (.cells #[stv z.1, .int .i64 (z.2.1 : Nat), .int .i64 (z.2.2 : Nat)] 121)).heap[w3.heap.size]? = some (.cells #[stv z.1, .int .i64 (z.2.1 : Nat), .int .i64 (z.2.2 : Nat)] 121) := heap_alloc_new w3 _
    have T4 := T3.keep ((Keep.refl rb w3).alloc (.cells #[stv z.1, .int .i64 (z.2.1 : Nat), .int .i64 (z.2.2 : Nat)] 121))
    clear h3 K3 Z3 Y_3 T3 hc
    have h2 := h4
    have c5 := pass_r z.1 h2 (by simp [passT, HV.out])
    rw [show passT z.1 (x :: r) = .ok x.a r by simp [passT, HV.out]] at c5
    have c5 : Calls _ _ _ _ (fun e w' => e = .returned (.int .i64 (x.a : Nat)) ∧ RdS w' rb o q r ∧ Keep rb _ w') := c5
    go_wp2_with fail
    refine c5.mono ?_
    rintro e w5 ⟨rfl, h5, k5⟩
    clear c5
    have Z5 := k5.blk Z4 (by have := K4.size; omega)
    have K5 := K4.trans k5
    have Y_5 := k5.blk Y_4 (by omega)
    have C_5 := k5.blk C_4 (by omega)
    have T5 := T4.keep k5
    clear K4 Y_4 C_4 T4 Z4
    clear h2
    go_upto_region 22 with fail
    generalize w3.heap.size = bc at *
    have HC : Hid (∀ wx : World, wx.heap[bc]? = some (.cells #[stv z.1, .int .i64 (z.2.1 : Nat), .int .i64 (z.2.2 : Nat)] 121) → wx.cell? ⟨bc, 1, none⟩ = some (.int .i64 (z.2.1 : Nat)) ∧ wx.cell? ⟨bc, 2, none⟩ = some (.int .i64 (z.2.2 : Nat))) := fun wx hw => by
      obtain ⟨y0, y1, y2, -⟩ := Blk.cells3 (o := fun _ => 0) (i := 0) ⟨hw, rfl⟩
      exact ⟨y1, y2⟩
    have Yd : w5.drew.heap[bc]? = some (.cells #[stv z.1, .int .i64 (z.2.1 : Nat), .int .i64 (z.2.2 : Nat)] 121) := C_5
    have hd : RdS w5.drew rb o q r := h5
    have Td : Tabs rb w5.drew := T5.keep (Keep.refl rb w5).drew
    have c6 := args_rc R z.2.2 hz4 hz5 ho hq hd Td (fun e => hn (by rw [HW.out, e]; rfl))
    have kd : Keep rb w5 w5.drew := (Keep.refl rb w5).drew
    cases hr : argsR rec z.2.2 o q r using Rs.on with
    | out => exact absurd (by rw [HW.out, hr]; rfl) hn
    | bad er a =>
      rw [hr] at c6
      have c6 : Calls _ _ _ _ (fun e w' => e = RefV er a ∧ Keep rb w5.drew w') := c6
      have FIN : Hid (W = .bad er a) := by show W = _; rw [HW.out, hr]; rfl
      clear HW hr
      have KB := K5.trans kd
      refine wp_region_held_drew (S := fun wx => wx.cell? ⟨bc, 1, none⟩ = some (.int .i64 (z.2.1 : Nat)) ∧ wx.cell? ⟨bc, 2, none⟩ = some (.int .i64 (z.2.2 : Nat))) (by kernel_rfl) (HC.out _ Yd) (fun hHeld => ?_)
      refine wpAnyH_take (i := 0) (v := ?v0) rfl (by kernel_rfl) (by kernel_rfl) (by kernel_rfl) (fun _ _ _ h => h) (Or.inl ⟨by rfl, ?hy0⟩) (by assumption) ?rest0
      case hy0 => (intro w hSw; (try dsimp only at hSw); go_simp; all_goals (with_reducible rfl))
      simp only [Act.put, List.getElem_toArray, List.getElem_cons_zero, List.getElem_cons_succ, List.setIfInBounds_toArray, List.set_cons_zero, List.set_cons_succ]
      refine wpAnyH_take (i := 1) (v := ?v1) rfl (by kernel_rfl) (by kernel_rfl) (by kernel_rfl) (fun _ _ _ h => h) (Or.inl ⟨by rfl, ?hy1⟩) (by assumption) ?rest1
      case hy1 => (intro w hSw; (try dsimp only at hSw); go_simp; all_goals (with_reducible rfl))
      simp only [Act.put, List.getElem_toArray, List.getElem_cons_zero, List.getElem_cons_succ, List.setIfInBounds_toArray, List.set_cons_zero, List.set_cons_succ]
      refine wpAnyH_take (i := 2) (v := ?v2) rfl (by kernel_rfl) (by kernel_rfl) (by kernel_rfl) (fun _ _ _ h => h) (Or.inl ⟨by rfl, ?hy2⟩) (by assumption) ?rest2
      case hy2 => (intro w hSw; (try dsimp only at hSw); go_simp; all_goals (with_reducible rfl))
      simp only [Act.put, List.getElem_toArray, List.getElem_cons_zero, List.getElem_cons_succ, List.setIfInBounds_toArray, List.set_cons_zero, List.set_cons_succ]
      refine wpAnyH_take (i := 3) (v := ?v3) rfl (by kernel_rfl) (by kernel_rfl) (by kernel_rfl) (fun _ _ _ h => h) (Or.inl ⟨by rfl, ?hy3⟩) (by assumption) ?rest3
      case hy3 => (intro w hSw; (try dsimp only at hSw); go_simp; all_goals (with_reducible rfl))
      simp only [Act.put, List.getElem_toArray, List.getElem_cons_zero, List.getElem_cons_succ, List.setIfInBounds_toArray, List.set_cons_zero, List.set_cons_succ]
      refine wpAnyH_take (i := 4) (v := ?v4) rfl (by kernel_rfl) (by kernel_rfl) (by kernel_rfl) (fun _ _ _ h => h) (Or.inl ⟨by rfl, ?hy4⟩) (by assumption) ?rest4
      case hy4 => (intro w hSw; (try dsimp only at hSw); go_simp; all_goals (with_reducible rfl))
      simp only [Act.put, List.getElem_toArray, List.getElem_cons_zero, List.getElem_cons_succ, List.setIfInBounds_toArray, List.set_cons_zero, List.set_cons_succ]
      refine wpAnyH_take (i := 6) (v := ?v5) rfl (by kernel_rfl) (by kernel_rfl) (by kernel_rfl) (fun _ _ _ h => h) (Or.inl ⟨by rfl, ?hy5⟩) (by assumption) ?rest5
      case hy5 => (intro w hSw; (try dsimp only at hSw); go_simp; all_goals (with_reducible rfl))
      simp only [Act.put, List.getElem_toArray, List.getElem_cons_zero, List.getElem_cons_succ, List.setIfInBounds_toArray, List.set_cons_zero, List.set_cons_succ]
      refine wpAnyH_ready (rs := [5]) (by kernel_rfl) (by simp) ?_
      refine AllReadyH.cons rfl (fun K hK => ?_) AllReadyH.nil
      rw [if_pos (by rfl)]
      go_simp
      refine c6.mono ?_
      rintro e w6 ⟨rfl, k6⟩
      have KC := KB.trans k6
      dsimp only
      exact ⟨rfl, by rw [FIN.out]; exact And.intro rfl KC⟩
    | ok ks t6 =>
      rw [hr] at c6
      have c6 : Calls _ _ _ _ (fun e w' => ∃ ao cap, e = .returned (.slice ao ks.len cap) ∧ Slc w' (Nw w5.drew.heap.size) ks ao cap ∧ RdS w' rb o q t6 ∧ Keep rb w5.drew w') := c6
      have FIN : Hid (W = .ok ⟨20, (z.2.1 : Nat), [], x.a, ks⟩ t6) := by show W = _; rw [HW.out, hr]; rfl
      clear HW hr
      have Zd : w5.drew.heap[w.heap.size]? = _ := Z5
      have hzd : w.heap.size < w5.drew.heap.size := lt_of_block Zd
      have hbc : w.heap.size < bc := hz3
      go_region_held3 (fun wx => wx.cell? ⟨bc, 1, none⟩ = some (.int .i64 (z.2.1 : Nat)) ∧ wx.cell? ⟨bc, 2, none⟩ = some (.int .i64 (z.2.2 : Nat))) (first | (with_reducible exact HC.out _ Yd) | (with_reducible exact HC.out _ Y6) | (with_reducible exact HC.out _ Y7)) ((go_at_call 143; refine c6.mono ?_; rintro e w6 ⟨ao6, cap6, rfl, S6, h6, k6⟩; have Y6 := k6.blk Yd (by omega); have Z6 := k6.blk Zd (by omega); obtain ⟨z0, z1, z2, z3, z4, zf⟩ := box5 Z6; have Y7 := (heap_set5 w6 w.heap.size bc (.int .i64 20) (.int .i64 (z.2.1 : Nat)) (stv []) (.slice ao6 ks.len cap6) (.int .i64 (x.a : Nat)) (by omega)).trans Y6))
      all_goals
        have K6 := (K5.trans kd).trans k6
        have KE := K6.set5 (b := w.heap.size) (by omega) (.int .i64 20) (.int .i64 (z.2.1 : Nat)) (stv []) (.slice ao6 ks.len cap6) (.int .i64 (x.a : Nat))
        have RE := h6.set5 (b := w.heap.size) (by omega) (.int .i64 20) (.int .i64 (z.2.1 : Nat)) (stv []) (.slice ao6 ks.len cap6) (.int .i64 (x.a : Nat))
        have ZE := set5k (.int .i64 20) (.int .i64 (z.2.1 : Nat)) (stv []) (.slice ao6 ks.len cap6) (.int .i64 (x.a : Nat)) Z6
        have SE : Slc _ (Nw w.heap.size) _ _ _ := (S6.set5 (b := w.heap.size) hzd (.int .i64 20) (.int .i64 (z.2.1 : Nat)) (stv []) (.slice ao6 ks.len cap6) (.int .i64 (x.a : Nat))).low (by omega)
        obtain ⟨u0, u1, u2, u3, u4, -⟩ := box5 ZE
        clear HC Yd Y6 Y7 Z6 Zd K6 ZE S6 h6 k6 kd hd Td T5 K5 h5 Z5
        go_wp2
        exact bodyPost_ret (v := exV ⟨20, (z.2.1 : Nat), [], x.a, ks⟩ ao6 cap6) (by simp [results, Tryz.results122, go_sem, u0, u1, u2, u3, u4, exV]) rfl (by rw [FIN.out]; exact ⟨_, _, rfl, SE, RE, KE⟩)
  | none =>
    rw [show callsL.find? (fun y => y.1 == x.t) = none from hc]
    unfold clF
    simp only
    have h4 := h3.alloc (.cells #[.string ⟨#[]⟩, .int .i64 0, .int .i64 0] 121)
    have K4 := K3.alloc (.cells #[.string ⟨#[]⟩, .int .i64 0, .int .i64 0] 121)
    have Z4 := (Below.heap_alloc w3 (.cells #[.string ⟨#[]⟩, .int .i64 0, .int .i64 0] 121) _ (lt_of_block Z3)).trans Z3
    have Y_4 := (Below.heap_alloc w3 (.cells #[.string ⟨#[]⟩, .int .i64 0, .int .i64 0] 121) _ (lt_of_block Y_3)).trans Y_3
    have T4 := T3.keep ((Keep.refl rb w3).alloc (.cells #[.string ⟨#[]⟩, .int .i64 0, .int .i64 0] 121))
    obtain ⟨t0, t1, t2, t3, tf⟩ := Blk.cells4 (o := fun _ => 0) (i := 0) ⟨Y_4, rfl⟩
    have c5 := quantAt_r x.t _ T4.qn
    clear h3 K3 Z3 Y_3 T3
    go_wp2_with fail
    refine c5.mono ?_
    rintro e w5 ⟨rfl, b5⟩
    have k5 : Keep rb _ w5 := Keep.ofBelow b5
    have h5 := h4.below b5
    have Z5 := k5.blk Z4 (by omega)
    have K5 := K4.trans k5
    have T5 := T4.keep k5
    have hz5 : w.heap.size < w5.heap.size := lt_of_block Z5
    clear c5 b5 h4 K4 Z4 T4 Y_4 k5 t0 t1 t2 t3 tf
    cases hq5 : quantAt x.t with
    | some z =>
      rw [show quantsL.find? (fun y => y.1 == x.t) = some z from hq5]
      unfold qnF
      simp only
      have HW1 : Hid (W = quantR rec m z.1 z.2 o q (x :: r)) := by show W = _; rw [HW.out]; simp only [atomR]; rw [quantAt_ok hq5]; simp [hk1, hk2, hf, ht, hat, hp, hi, hc, hq5]
      clear HW hq5 hc
      have HW := HW1
      clear HW1
      have h6 := h5.alloc (.cells #[stv z.1, .int .i64 (z.2 : Nat)] 133)
      have K6 := K5.alloc (.cells #[stv z.1, .int .i64 (z.2 : Nat)] 133)
      have Z6 := (Below.heap_alloc w5 (.cells #[stv z.1, .int .i64 (z.2 : Nat)] 133) _ (lt_of_block Z5)).trans Z5
      have T6 := T5.keep ((Keep.refl rb w5).alloc (.cells #[stv z.1, .int .i64 (z.2 : Nat)] 133))
      clear h5 K5 Z5 T5
      have c7 := quant_rc R m hm z.1 z.2 ho hq h6 T6 (fun e => hn (by rw [HW.out, e]))
      go_wp2_with fail
      refine c7.mono ?_
      rintro e w7 hP
      clear c7
      cases hr7 : quantR rec m z.1 z.2 o q (x :: r) using Rs.on with
      | out => rw [hr7] at hP; exact hP.elim
      | bad er a =>
        rw [hr7] at hP
        obtain ⟨rfl, k7⟩ := hP
        have KB := K6.trans k7
        have FIN : Hid (W = .bad er a) := by show W = _; rw [HW.out]; simp only [if_true, hr7, Rs.bind]
        clear HW
        go_wp2
        exact ⟨rfl, by rw [FIN.out]; exact And.intro rfl KB⟩
      | ok y t7 =>
        rw [hr7] at hP
        obtain ⟨ao7, cap7, rfl, S7, h7, k7⟩ := hP
        have S7a := S7.low (show (w.heap.size + 1) ≤ _ from (by have := lt_of_block Z6; omega))
        clear S7
        have Z7 := k7.blk Z6 (by have := K6.size; omega)
        have K7 := K6.trans k7
        have T7 := T6.keep k7
        clear K6 T6 Z6
        have KE := K7.set5 (b := w.heap.size) (by omega) (.int .i64 y.k) (.int .i64 y.n) (stv y.nm) (.slice ao7 y.kids.len cap7) (.int .i64 y.a)
        have RE := h7.set5 (b := w.heap.size) (by omega) (.int .i64 y.k) (.int .i64 y.n) (stv y.nm) (.slice ao7 y.kids.len cap7) (.int .i64 y.a)
        have ZE := set5k (.int .i64 y.k) (.int .i64 y.n) (stv y.nm) (.slice ao7 y.kids.len cap7) (.int .i64 y.a) Z7
        have SE : Slc _ (Nw w.heap.size) _ _ _ := (S7a.set5 (b := w.heap.size) (by omega) (.int .i64 y.k) (.int .i64 y.n) (stv y.nm) (.slice ao7 y.kids.len cap7) (.int .i64 y.a)).low (by omega)
        obtain ⟨z0, z1, z2, z3, z4, zf⟩ := box5 Z7
        obtain ⟨u0, u1, u2, u3, u4, -⟩ := box5 ZE
        have FIN : Hid (W = .ok y t7) := by show W = _; rw [HW.out]; simp only [hr7, Rs.bind]
        clear HW ZE K7 Z7 h7 T7 S7a
        rw [exV_out]
        go_wp2
        exact bodyPost_ret (v := exV y ao7 cap7) (by simp [results, Tryz.results122, go_sem, u0, u1, u2, u3, u4, exV]) rfl (by rw [FIN.out]; exact ⟨_, _, rfl, SE, RE, KE⟩)
    | none =>
      rw [show quantsL.find? (fun y => y.1 == x.t) = none from hq5]
      unfold qnF
      simp only
      have FIN : Hid (W = .bad 120 x.a) := by show W = _; rw [HW.out]; simp only [atomR]; simp [hk1, hk2, hf, ht, hat, hp, hi, hc, hq5]
      have c6 := refused_r 120 (h5.alloc (.cells #[.string ⟨#[]⟩, .int .i64 0] 133))
      have K6 := K5.alloc (.cells #[.string ⟨#[]⟩, .int .i64 0] 133)
      clear HW hq5 hc h5 K5 Z5 T5
      go_wp2_with fail
      refine c6.mono ?_
      rintro e w7 ⟨rfl, b7⟩
      have KB := K6.trans (Keep.ofBelow (rb := rb) b7)
      clear c6 b7 K6
      go_wp2
      exact ⟨rfl, by rw [FIN.out]; exact And.intro rfl KB⟩
end Go.Proofs.YtafnlhnenmpfoaaGreatDoor
