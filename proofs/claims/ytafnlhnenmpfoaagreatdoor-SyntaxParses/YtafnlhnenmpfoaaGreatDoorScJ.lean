/- The program's reader, with room for each list (mkcap.py writes this text out of SynJ). -/
import Derived.Test.YtafnlhnenmpfoaaGreatDoorScH
import Derived.Deep.RegionHeld3
namespace Go.Proofs.YtafnlhnenmpfoaaGreatDoor
open Go.ChangeShapes Go.WideShapes Go.ChangeAt Go.RowKit
set_option linter.unusedVariables false
set_option linter.unusedSimpArgs false

set_option maxRecDepth 100000 in
set_option maxHeartbeats 2000000 in
theorem mem_rc {rec : Rdr} (R : RecOkc rec) {w : World} {rb o q : Nat} {ts : List Tk} (m : Nat) (hm : m ≤ 1000000) (ho : o ≤ 64) (hq : q ≤ 4) (h : RdS w rb o q ts) (T : Tabs rb w) (hn : memR rec m o q ts ≠ .out) :
    Calls Tryz.prog 162 #[.pointer (some ⟨rb, 0, none⟩)] w (PostFc rb o q w (memR rec m o q ts)) := by
  obtain ⟨W, hW⟩ : ∃ W, W = memR rec m o q ts := ⟨_, rfl⟩
  rw [← hW] at hn ⊢
  have HW : Hid (W = memR rec m o q ts) := hW
  have hrb := h.lt
  have K0 := Keep.refl rb w
  cases ts with
  | nil => exact absurd (HW.out.trans rfl) hn
  | cons x r =>
  have c0 := has_r [125] h
  clear hW
  go_enter Tryz.func162, Tryz.ntmps162
  go_wp2_with fail
  refine c0.mono ?_
  rintro e w1 ⟨rfl, b1⟩
  have h1 := h.below b1
  have K1 : Keep rb w w1 := Keep.ofBelow b1
  have T1 := T.keep K1
  clear c0 b1 K0 h
  by_cases hx : x.t = [125]
  · have hx2 : (x.t == [125]) = true := by simpa using hx
    have FIN : Hid (W = .ok .nil (x :: r)) := by show W = _; rw [HW.out]; simp only [memR, hx, if_true]
    clear HW hx
    go_wp2
    go_ret
    rw [FIN.out]
    exact ⟨none, 0, rfl, Slc.nil _ _, h1, K1⟩
  · have hx2 : (x.t == [125]) = false := by simpa using hx
    have HW1 : Hid (W = (rec 1 o q (x :: r)).bind fun e t1 => memL rec m o q (one e) t1) := by show W = _; rw [HW.out]; simp only [memR, hx, if_false]
    have c2 := query_rc R ho hq h1 T1 (fun e => hn (by rw [HW1.out, e]; rfl))
    clear HW hx
    go_wp2_with fail
    refine c2.mono ?_
    rintro e w2 hP
    clear c2
    cases hr2 : rec 1 o q (x :: r) using Rs.on with
    | out => rw [hr2] at hP; exact hP.elim
    | bad er a =>
      rw [hr2] at hP
      obtain ⟨rfl, k2⟩ := hP
      have KB := K1.trans k2
      have FIN : Hid (W = .bad er a) := by show W = _; rw [HW1.out, hr2]; rfl
      clear HW1
      go_wp2
      exact ⟨rfl, by rw [FIN.out]; exact And.intro rfl KB⟩
    | ok x2 t2 =>
      rw [hr2] at hP
      obtain ⟨ao2, cap2, rfl, S2, h2, k2⟩ := hP
      have K2 := K1.trans k2
      have T2 := T1.keep k2
      have A0 := Accc.one cap2 (S2.low K1.size) K2.size
      have h3 := h2.alloc (.cells #[.int .i64 x2.k, .int .i64 x2.n, stv x2.nm, .slice ao2 x2.kids.len cap2, .int .i64 x2.a] 25)
      have K3 := K2.alloc (.cells #[.int .i64 x2.k, .int .i64 x2.n, stv x2.nm, .slice ao2 x2.kids.len cap2, .int .i64 x2.a] 25)
      have T3 := T2.keep ((Keep.refl rb w2).alloc (.cells #[.int .i64 x2.k, .int .i64 x2.n, stv x2.nm, .slice ao2 x2.kids.len cap2, .int .i64 x2.a] 25))
      have HA : Hid (memL rec m o q (one x2) t2 = W) := by show _ = W; rw [HW1.out, hr2]; rfl
      clear HW1 hr2 h2 K2 T2 S2 h1 K1 T1 k2
      obtain ⟨ii, hii, hzi0, hzi1, hzi2⟩ := info_parts infoExpr
      rw [exV_out]
      go_wp2
      go_loopw [3] (fun v wr => ∃ acc ti m', (acc : Fs).len + m' = m + 1 ∧ Accc wr w.heap.size acc v ∧ RdS wr rb o q ti ∧ Keep rb w wr ∧ Tabs rb wr ∧ Hid (memL rec m' o q acc ti = W)) (fun v _ => m + 2 - slLen v)
      case atStart => exact ⟨one x2, t2, m, by show 1 + m = m + 1; omega, A0, h3, K3, T3, HA⟩
      case round =>
        clear A0 h3 K3 T3 HA hx2
        obtain ⟨acc, ti, m', hl, A1, h4, K4, T4, HA⟩ := hrel
        cases m' with
        | zero => exact absurd HA.out.symm hn
        | succ m' =>
        cases ti with
        | nil => exact absurd HA.out.symm hn
        | cons y l =>
        obtain ⟨g, cap, xs, rfl, AG⟩ := A1
        have c5 := has_r [44] h4
        go_wp2_with fail
        refine c5.mono ?_
        rintro e w5 ⟨rfl, b5⟩
        have h5 := h4.below b5
        have k5 : Keep rb _ w5 := Keep.ofBelow b5
        have K5 := K4.trans k5
        have T5 := T4.keep k5
        have A5 : Accc w5 w.heap.size acc (.slice (some ⟨g, 0, none⟩) acc.len cap) := Accc.keep ⟨g, cap, xs, rfl, AG⟩ k5 hrb
        clear c5 b5 h4 K4 T4 k5 AG xs
        by_cases hy : y.t = [44]
        · have hy2 : (y.t == [44]) = true := by simpa using hy
          have HA2 : Hid (W = (rec 1 o q l).bind fun e t2 => memL rec m' o q (acc.snoc e) t2) := by show W = _; rw [← HA.out]; simp only [memL, hy, if_true]
          have c6 := pass_r [44] h5 (by simp [passT, hy])
          rw [show passT [44] (y :: l) = .ok y.a l by simp [passT, hy]] at c6
          have c6 : Calls _ _ _ _ (fun e w' => e = .returned (.int .i64 (y.a : Nat)) ∧ RdS w' rb o q l ∧ Keep rb w5 w') := c6
          clear HA hy
          go_wp2_with fail
          refine c6.mono ?_
          rintro e w6 ⟨rfl, h6, k6⟩
          have K6 := K5.trans k6
          have T6 := T5.keep k6
          have A6 := A5.keep k6 hrb
          clear c6 K5 T5 A5 k6 h5
          have c7 := query_rc R ho hq h6 T6 (fun e => hn (by rw [HA2.out, e]; rfl))
          go_wp2_with fail
          refine c7.mono ?_
          rintro e w7 hP
          clear c7
          cases hr7 : rec 1 o q l using Rs.on with
          | out => rw [hr7] at hP; exact hP.elim
          | bad er a =>
            rw [hr7] at hP
            obtain ⟨rfl, k7⟩ := hP
            have KB := K6.trans k7
            have FIN : Hid (W = .bad er a) := by show W = _; rw [HA2.out, hr7]; rfl
            clear HA2
            go_wp2
            exact ⟨rfl, by rw [FIN.out]; exact And.intro rfl KB⟩
          | ok z t7 =>
            rw [hr7] at hP
            obtain ⟨ao7, cap7, rfl, S7, h7, k7⟩ := hP
            have K7 := K6.trans k7
            have T7 := T6.keep k7
            have A7 := A6.keep k7 hrb
            have HA3 : Hid (memL rec m' o q (acc.snoc z) t7 = W) := by show _ = W; rw [HA2.out, hr7]; rfl
            obtain ⟨g', cap', xs, hv, AG⟩ := A7
            simp only [Value.slice.injEq, Option.some.injEq, Addr.mk.injEq, true_and, and_true] at hv
            obtain ⟨rfl, rfl⟩ := hv
            have hg6 : g < w6.heap.size := by obtain ⟨g2, c2, x2, hv, B⟩ := A6; simp only [Value.slice.injEq, Option.some.injEq, Addr.mk.injEq, true_and, and_true] at hv; obtain ⟨rfl, rfl⟩ := hv; exact B.row.lt rfl
            have AG8 : AccGc (w7.alloc (.cells #[.int .i64 z.k, .int .i64 z.n, stv z.nm, .slice ao7 z.kids.len cap7, .int .i64 z.a] 25)) w.heap.size acc g cap xs := ⟨AG.1, (AG.row.step (allocStep (fun _ => False) w7 (lab1 g) _) id).1, AG.2.2.mono (fun i hp hl => Below.heap_alloc w7 _ i hl) (by simp) (fun _ h _ => h)⟩
            have S8 := S7.allocN (.cells #[.int .i64 z.k, .int .i64 z.n, stv z.nm, .slice ao7 z.kids.len cap7, .int .i64 z.a] 25)
            have h8 := h7.alloc (.cells #[.int .i64 z.k, .int .i64 z.n, stv z.nm, .slice ao7 z.kids.len cap7, .int .i64 z.a] 25)
            have K8 := K7.alloc (.cells #[.int .i64 z.k, .int .i64 z.n, stv z.nm, .slice ao7 z.kids.len cap7, .int .i64 z.a] 25)
            clear A6 K6 T6 h6 k7 K7 T7 S7 h7 HA2 hr7 AG
            have b1 : acc.len + 1 ≤ maxLen := by unfold maxLen; omega
            have b2 : (acc.len + 1) * 64 ≤ 140737488355328 := by omega
            have hone : ∀ u ∈ [Value.int .i64 z.k, .int .i64 z.n, stv z.nm, .slice ao7 z.kids.len cap7, .int .i64 z.a], u.oneCell' = true := by intro u hu; simp at hu; rcases hu with rfl | rfl | rfl | rfl | rfl <;> rfl
            rw [exV_out]
            go_wp2_with (first | (at_builtin; refine wpList_append_lab rfl (.tmp 13) (.tmp 16) 23 rfl 25 ii _ 5 64 Tryz.underlying23 hii hzi0 hzi1 hzi2 rfl (by decide) (lab1 g) 1 _ acc.len xs rfl AG8.row ⟨w7.heap.size, 0, none⟩ 1 1 [.int .i64 z.k, .int .i64 z.n, stv z.nm, .slice ao7 z.kids.len cap7, .int .i64 z.a] rfl rfl (new_cells_at w7 _ _) hone (by decide) b1 b2 ?_) | go_in)
            intro g9 c9 w9 o9 r9 s9
            have A9 := Accc.push AG8 S8 hg6 K8.size s9 r9
            have h9 := h8.step1 s9 (Nat.lt_of_lt_of_le hrb AG8.1)
            have K9 := K8.step1 s9 AG8.1
            have T9 := T.keep K9
            clear AG8 S8 h8 K8 r9 s9 hone
            go_wp2
            go_roundw
            case rel => (try ((repeat apply Exists.intro); refine ⟨?_, rfl⟩)); exact ⟨acc.snoc z, t7, m', by rw [Fs.len_snoc]; omega, A9, h9, K9, T9, HA3⟩
            case measure => simp [slLen]; omega
        · have hy2 : (y.t == [44]) = false := by simpa using hy
          have FIN : Hid (W = .ok acc (y :: l)) := by show W = _; rw [← HA.out]; simp only [memL, hy, if_false]
          obtain ⟨ao, cap', hv, S5⟩ := A5.sl
          simp only [Value.slice.injEq, true_and] at hv
          obtain ⟨rfl, rfl⟩ := hv
          clear HA hy A5
          go_wp2
          go_ret
          rw [FIN.out]
          exact ⟨_, cap, rfl, S5, h5, K5⟩
end Go.Proofs.YtafnlhnenmpfoaaGreatDoor
namespace Go.Proofs.YtafnlhnenmpfoaaGreatDoor
open Go.ChangeShapes Go.WideShapes Go.ChangeAt Go.RowKit
set_option linter.unusedVariables false
set_option linter.unusedSimpArgs false

set_option maxRecDepth 100000 in
set_option maxHeartbeats 2000000 in
theorem set_rc {rec : Rdr} (R : RecOkc rec) {w : World} {rb o q : Nat} {ts : List Tk} (m : Nat) (hm : m ≤ 1000000) (ho : o ≤ 64) (hq : q ≤ 4) (h : RdS w rb o q ts) (T : Tabs rb w) (hn : setR rec m o q ts ≠ .out) :
    Calls Tryz.prog 157 #[.pointer (some ⟨rb, 0, none⟩)] w (PostEc rb o q w (setR rec m o q ts)) := by
  obtain ⟨W, hW⟩ : ∃ W, W = setR rec m o q ts := ⟨_, rfl⟩
  rw [← hW] at hn ⊢
  have HW : Hid (W = setR rec m o q ts) := hW
  have hrb := h.lt
  have K0 : Keep rb w (w.alloc exZ) := (Keep.refl rb w).alloc _
  have Z0 : (w.alloc exZ).heap[w.heap.size]? = some exZ := heap_alloc_new w _
  have h0 := h.alloc exZ
  have T0 := T.keep K0
  clear hW
  cases ts with
  | nil => exact absurd HW.out hn
  | cons x r =>
  have c0 := token_r h0
  unfold tkV at c0
  go_enter Tryz.func157, Tryz.ntmps157
  go_wp2_with fail
  refine c0.mono ?_
  rintro e w1 ⟨rfl, b1⟩
  have k1 : Keep rb _ w1 := Keep.ofBelow b1
  have h1 := h0.below b1
  have Z1 := k1.blk Z0 (by omega)
  have K1 := K0.trans k1
  have T1 := T0.keep k1
  clear c0 b1 h0 Z0 K0 T0 k1
  have h2 := h1.alloc (.cells #[.int .i64 (x.k : Nat), .int .i64 x.n, stv x.t, .int .i64 (x.a : Nat)] 47)
  have K2 := K1.alloc (.cells #[.int .i64 (x.k : Nat), .int .i64 x.n, stv x.t, .int .i64 (x.a : Nat)] 47)
  have Z2 := (Below.heap_alloc w1 (.cells #[.int .i64 (x.k : Nat), .int .i64 x.n, stv x.t, .int .i64 (x.a : Nat)] 47) _ (lt_of_block Z1)).trans Z1
  have Y_2 : (w1.alloc (.cells #[.int .i64 (x.k : Nat), .int .i64 x.n, stv x.t, .int .i64 (x.a : Nat)] 47)).heap[w1.heap.size]? = some (.cells #[.int .i64 (x.k : Nat), .int .i64 x.n, stv x.t, .int .i64 (x.a : Nat)] 47) := heap_alloc_new w1 _
  have T2 := T1.keep ((Keep.refl rb w1).alloc (.cells #[.int .i64 (x.k : Nat), .int .i64 x.n, stv x.t, .int .i64 (x.a : Nat)] 47))
  have hb1 : rb < w1.heap.size := by have := K1.size; omega
  have hz1 : w.heap.size < w1.heap.size := lt_of_block Z1
  clear h1 K1 Z1 T1
  by_cases hk : x.k = 2
  · have hk3 : ((x.k : Int) == 2) = true := by rw [beq_iff_eq]; omega
    have HK : Hid (x.k = 2) := hk
    clear hk
    have c3 := passKind_r x.k h2 (by simp [passK])
    rw [show passK x.k (x :: r) = .ok x r by simp [passK]] at c3
    have f1 := tk_f1
    have f2 := tk_f2
    go_upto_region 3 with fail
    generalize w1.alloc (.cells #[.int .i64 (x.k : Nat), .int .i64 x.n, stv x.t, .int .i64 (x.a : Nat)] 47) = w2 at *
    generalize w1.heap.size = bt at *
    have c3 : Calls Tryz.prog 141 #[.pointer (some ⟨rb, 0, none⟩), .int .i64 (x.k : Nat)] w2 (fun e w' => e = .returned (.agg #[.int .i64 (x.k : Nat), .int .i64 x.n, stv x.t, .int .i64 (x.a : Nat)]) ∧ RdS w' rb o q r ∧ Keep rb w2 w') := c3
    have HC : Hid (∀ wx : World, wx.heap[bt]? = some (.cells #[.int .i64 (x.k : Nat), .int .i64 x.n, stv x.t, .int .i64 (x.a : Nat)] 47) → wx.cell? ⟨bt, 0, none⟩ = some (.int .i64 (x.k : Nat)) ∧ wx.cell? ⟨bt, 3, none⟩ = some (.int .i64 (x.a : Nat))) := fun wx hw => by
      obtain ⟨y0, y1, y2, y3, -⟩ := Blk.cells4 (o := fun _ => 0) (i := 0) ⟨hw, rfl⟩
      exact ⟨y0, y3⟩
    have Yd : w2.drew.heap[bt]? = some (.cells #[.int .i64 (x.k : Nat), .int .i64 x.n, stv x.t, .int .i64 (x.a : Nat)] 47) := Y_2
    have c4 : ∀ w' : World, w' = w2.drew → Calls Tryz.prog 141 #[.pointer (some ⟨rb, 0, none⟩), .int .i64 (x.k : Nat)] w' (fun e w3 => e = .returned (.agg #[.int .i64 (x.k : Nat), .int .i64 x.n, stv x.t, .int .i64 (x.a : Nat)]) ∧ RdS w3 rb o q r ∧ Keep rb w2 w3) := fun w' hw' => by
      subst hw'
      have hd : RdS w2.drew rb o q (x :: r) := h2
      have := passKind_r x.k hd (by simp [passK])
      rw [show passK x.k (x :: r) = .ok x r by simp [passK]] at this
      refine Calls.mono this ?_
      rintro e w3 ⟨a, b, k⟩
      exact ⟨a, b, ⟨k.os, k.tape, k.output, k.size, k.block⟩⟩
    clear c3
    have FIN : Hid (W = .ok ⟨23, 0, x.t, x.a, .nil⟩ r) := by show W = _; rw [HW.out]; simp only [setR]; simp [HK.out]
    clear HW HK hk3
    go_region_held3 (fun wx => wx.cell? ⟨bt, 0, none⟩ = some (.int .i64 (x.k : Nat)) ∧ wx.cell? ⟨bt, 3, none⟩ = some (.int .i64 (x.a : Nat))) (first | (with_reducible exact HC.out _ Yd) | (with_reducible exact HC.out _ Y3) | (with_reducible exact HC.out _ Y4)) ((go_at_call 141; refine (c4 _ rfl).mono ?_; rintro e w3 ⟨rfl, h3, k3⟩; have Y3 := k3.blk Y_2 (by omega); have Z3 := k3.blk Z2 (by omega); obtain ⟨z0, z1, z2, z3, z4, zf⟩ := box5 Z3; have Y4 := (heap_set5 w3 w.heap.size bt (.int .i64 23) (.int .i64 0) (stv x.t) (.slice none 0 0) (.int .i64 x.a) (by omega)).trans Y3))
    all_goals
      have K3 := K2.trans k3
      have KE := K3.set5 (Nat.le_refl _) (.int .i64 23) (.int .i64 0) (stv x.t) (.slice none 0 0) (.int .i64 x.a)
      have RE := h3.set5 hrb (.int .i64 23) (.int .i64 0) (stv x.t) (.slice none 0 0) (.int .i64 x.a)
      have ZE := set5k (.int .i64 23) (.int .i64 0) (stv x.t) (.slice none 0 0) (.int .i64 x.a) Z3
      obtain ⟨u0, u1, u2, u3, u4, -⟩ := box5 ZE
      clear HC Yd Y3 Z3 Y4 K3 K2 h2 Z2 Y_2 T2 T ZE c4
      go_wp2
      exact bodyPost_ret (v := exV ⟨23, 0, x.t, x.a, .nil⟩ none 0) (by simp [results, Tryz.results157, go_sem, u0, u1, u2, u3, u4, exV, Fs.len]) rfl (by rw [FIN.out]; exact ⟨_, _, rfl, Slc.nil _ _, RE, KE⟩)
  have hk3 : ((x.k : Int) == 2) = false := by rw [beq_eq_false_iff_ne]; omega
  by_cases hv : x.t = [118, 101, 114, 116, 105, 99, 101, 115]
  · have hv2 : (x.t == [118, 101, 114, 116, 105, 99, 101, 115]) = true := by simpa using hv
    have HV : Hid (x.t = [118, 101, 114, 116, 105, 99, 101, 115]) := hv
    clear hv
    have c3 := pass_r [118, 101, 114, 116, 105, 99, 101, 115] h2 (by simp [passT, HV.out])
    rw [show passT [118, 101, 114, 116, 105, 99, 101, 115] (x :: r) = .ok x.a r by simp [passT, HV.out]] at c3
    have c3 : Calls _ _ _ _ (fun e w' => e = .returned (.int .i64 (x.a : Nat)) ∧ RdS w' rb o q r ∧ Keep rb _ w') := c3
    go_wp2_with fail
    refine c3.mono ?_
    rintro e w3 ⟨rfl, h3, k3⟩
    clear c3
    have Z3 := k3.blk Z2 (by have := K2.size; omega)
    have K3 := K2.trans k3
    have Y_3 := k3.blk Y_2 (by omega)
    have T3 := T2.keep k3
    clear K2 Y_2 T2 Z2
    have NS := True.intro
    have KF := K3
    have RF := h3
    have ZF := Z3
    have KE := KF.set5 (b := w.heap.size) (by omega) (.int .i64 22) (.int .i64 0) (stv []) (.slice none 0 0) (.int .i64 x.a)
    have RE := RF.set5 (b := w.heap.size) (by omega) (.int .i64 22) (.int .i64 0) (stv []) (.slice none 0 0) (.int .i64 x.a)
    have ZE := set5k (.int .i64 22) (.int .i64 0) (stv []) (.slice none 0 0) (.int .i64 x.a) ZF
    obtain ⟨z0, z1, z2, z3, z4, zf⟩ := box5 ZF
    obtain ⟨u0, u1, u2, u3, u4, -⟩ := box5 ZE
    obtain ⟨y00, y01, y02, y03, y0f⟩ := Blk.cells4 (o := fun _ => 0) (i := 0) ⟨Y_3, rfl⟩
    have FIN : Hid (W = .ok ⟨22, 0, [], x.a, .nil⟩ r) := by show W = _; rw [HW.out]; simp only [setR, Rs.bind]; simp [hk, HV.out]
    clear HW ZE ZF KF RF NS K3 Z3 h3 T3 Y_3
    go_wp2
    exact bodyPost_ret (v := exV ⟨22, 0, [], x.a, .nil⟩ none 0) (by simp [results, Tryz.results157, go_sem, u0, u1, u2, u3, u4, exV, Fs.len]) rfl (by rw [FIN.out]; exact ⟨_, _, rfl, Slc.nil _ _, RE, KE⟩)
  have hv2 : (x.t == [118, 101, 114, 116, 105, 99, 101, 115]) = false := by simpa using hv
  by_cases ha : x.t = [97, 114, 111, 117, 110, 100]
  · have ha2 : (x.t == [97, 114, 111, 117, 110, 100]) = true := by simpa using ha
    have HW1 : Hid (W = (argsR rec 1 o q r).bind fun ks t => .ok ⟨24, 0, [], x.a, ks⟩ t) := by show W = _; rw [HW.out]; simp only [setR]; simp [hk, hv, ha]
    clear HW
    have HW := HW1
    have HV : Hid (x.t = [97, 114, 111, 117, 110, 100]) := ha
    clear HW1 ha
    have c3 := pass_r [97, 114, 111, 117, 110, 100] h2 (by simp [passT, HV.out])
    rw [show passT [97, 114, 111, 117, 110, 100] (x :: r) = .ok x.a r by simp [passT, HV.out]] at c3
    have c3 : Calls _ _ _ _ (fun e w' => e = .returned (.int .i64 (x.a : Nat)) ∧ RdS w' rb o q r ∧ Keep rb _ w') := c3
    go_wp2_with fail
    refine c3.mono ?_
    rintro e w3 ⟨rfl, h3, k3⟩
    clear c3
    have Z3 := k3.blk Z2 (by have := K2.size; omega)
    have K3 := K2.trans k3
    have Y_3 := k3.blk Y_2 (by omega)
    have T3 := T2.keep k3
    clear K2 Y_2 T2 Z2
    have c4 := args_rc R 1 (by omega) (by omega) ho hq h3 T3 (fun e => hn (by rw [HW.out, e]; rfl))
    go_wp2_with fail
    refine c4.mono ?_
    rintro e w4 hP
    clear c4
    cases hr4 : argsR rec 1 o q r using Rs.on with
    | out => rw [hr4] at hP; exact hP.elim
    | bad er a =>
      rw [hr4] at hP
      obtain ⟨rfl, k4⟩ := hP
      have KB := K3.trans k4
      have FIN : Hid (W = .bad er a) := by show W = _; rw [HW.out]; simp only [if_true, hr4, Rs.bind]
      clear HW
      go_wp2
      exact ⟨rfl, by rw [FIN.out]; exact And.intro rfl KB⟩
    | ok ks t4 =>
      rw [hr4] at hP
      obtain ⟨ao4, cap4, rfl, S4, h4, k4⟩ := hP
      have S4a := S4.low (show (w.heap.size + 1) ≤ _ from (by have := lt_of_block Z3; omega))
      clear S4
      have Z4 := k4.blk Z3 (by have := K3.size; omega)
      have K4 := K3.trans k4
      have Y_4 := k4.blk Y_3 (by omega)
      have T4 := T3.keep k4
      clear K3 Y_3 T3 Z3
      have NS := S4a
      have KF := K4
      have RF := h4
      have ZF := Z4
      have KE := KF.set5 (b := w.heap.size) (by omega) (.int .i64 24) (.int .i64 0) (stv []) (.slice ao4 ks.len cap4) (.int .i64 x.a)
      have RE := RF.set5 (b := w.heap.size) (by omega) (.int .i64 24) (.int .i64 0) (stv []) (.slice ao4 ks.len cap4) (.int .i64 x.a)
      have ZE := set5k (.int .i64 24) (.int .i64 0) (stv []) (.slice ao4 ks.len cap4) (.int .i64 x.a) ZF
      have SE : Slc _ (Nw w.heap.size) _ _ _ := (NS.set5 (b := w.heap.size) (by omega) (.int .i64 24) (.int .i64 0) (stv []) (.slice ao4 ks.len cap4) (.int .i64 x.a)).low (by omega)
      obtain ⟨z0, z1, z2, z3, z4, zf⟩ := box5 ZF
      obtain ⟨u0, u1, u2, u3, u4, -⟩ := box5 ZE
      obtain ⟨y00, y01, y02, y03, y0f⟩ := Blk.cells4 (o := fun _ => 0) (i := 0) ⟨Y_4, rfl⟩
      have FIN : Hid (W = .ok ⟨24, 0, [], x.a, ks⟩ t4) := by show W = _; rw [HW.out]; simp only [hr4, Rs.bind]
      clear HW ZE ZF KF RF NS K4 Z4 h4 T4 Y_4 S4a
      go_wp2
      exact bodyPost_ret (v := exV ⟨24, 0, [], x.a, ks⟩ ao4 cap4) (by simp [results, Tryz.results157, go_sem, u0, u1, u2, u3, u4, exV]) rfl (by rw [FIN.out]; exact ⟨_, _, rfl, SE, RE, KE⟩)
  have ha2 : (x.t == [97, 114, 111, 117, 110, 100]) = false := by simpa using ha
  have HW1 : Hid (W = (enterT [123] o (x :: r)).bind fun a t1 => (memR rec m (o + 1) q t1).bind fun ks t2 => (passT [125] t2).bind fun _ t3 => .ok ⟨25, 0, [], a, ks⟩ t3) := by show W = _; rw [HW.out]; simp only [setR]; simp [hk, hv, ha]
  clear HW
  have HW := HW1
  clear HW1
  have c3 := enter_r [123] h2 ho (fun e => hn (by rw [HW.out, e]; rfl))
  go_wp2_with fail
  refine c3.mono ?_
  rintro e w3 hP
  clear c3
  cases hr3 : enterT [123] o (x :: r) using Rs.on with
  | out => rw [hr3] at hP; exact hP.elim
  | bad er a =>
    rw [hr3] at hP
    obtain ⟨rfl, k3⟩ := hP
    have KB := K2.trans k3
    have FIN : Hid (W = .bad er a) := by show W = _; rw [HW.out]; simp only [if_true, hr3, Rs.bind]
    clear HW
    go_wp2
    exact ⟨rfl, by rw [FIN.out]; exact And.intro rfl KB⟩
  | ok a0 t3 =>
    rw [hr3] at hP
    obtain ⟨rfl, h3, k3⟩ := hP
    have Z3 := k3.blk Z2 (by have := K2.size; omega)
    have K3 := K2.trans k3
    have Y_3 := k3.blk Y_2 (by omega)
    have T3 := T2.keep k3
    clear K2 Y_2 T2 Z2
    have ho1 := enter_le hr3 ho
    have c4 := mem_rc R m hm ho1 hq h3 T3 (fun e => hn (by rw [HW.out]; simp only [hr3, e, Rs.bind]))
    go_wp2_with fail
    refine c4.mono ?_
    rintro e w4 hP
    clear c4
    cases hr4 : memR rec m (o + 1) q t3 using Rs.on with
    | out => rw [hr4] at hP; exact hP.elim
    | bad er a =>
      rw [hr4] at hP
      obtain ⟨rfl, k4⟩ := hP
      have KB := K3.trans k4
      have FIN : Hid (W = .bad er a) := by show W = _; rw [HW.out]; simp only [hr3, hr4, Rs.bind]
      clear HW
      go_wp2
      exact ⟨rfl, by rw [FIN.out]; exact And.intro rfl KB⟩
    | ok ks t4 =>
      rw [hr4] at hP
      obtain ⟨ao4, cap4, rfl, S4, h4, k4⟩ := hP
      have S4a := S4.low (show (w.heap.size + 1) ≤ _ from (by have := lt_of_block Z3; omega))
      clear S4
      have Z4 := k4.blk Z3 (by have := K3.size; omega)
      have K4 := K3.trans k4
      have Y_4 := k4.blk Y_3 (by omega)
      have T4 := T3.keep k4
      clear K3 Y_3 T3 Z3
      have c5 := pass_r [125] h4 (fun e => hn (by rw [HW.out]; simp only [hr3, hr4, e, Rs.bind]))
      go_wp2_with fail
      refine c5.mono ?_
      rintro e w5 hP
      clear c5
      cases hr5 : passT [125] t4 using Rs.on with
      | out => rw [hr5] at hP; exact hP.elim
      | bad er a =>
        rw [hr5] at hP
        obtain ⟨rfl, k5⟩ := hP
        have KB := K4.trans k5
        have FIN : Hid (W = .bad er a) := by show W = _; rw [HW.out]; simp only [hr3, hr4, hr5, Rs.bind]
        clear HW
        go_wp2
        exact ⟨rfl, by rw [FIN.out]; exact And.intro rfl KB⟩
      | ok x5 t5 =>
        rw [hr5] at hP
        obtain ⟨rfl, h5, k5⟩ := hP
        have Z5 := k5.blk Z4 (by have := K4.size; omega)
        have K5 := K4.trans k5
        have Y_5 := k5.blk Y_4 (by omega)
        have S4a_5 := S4a.keepN k5 (by omega)
        have T5 := T4.keep k5
        clear K4 Y_4 S4a T4 Z4
        have c6 := leave_r h5 ho
        go_wp2_with fail
        refine c6.mono ?_
        rintro e w6 ⟨rfl, h6, k6⟩
        clear c6
        have Z6 := k6.blk Z5 (by have := K5.size; omega)
        have K6 := K5.trans k6
        have Y_6 := k6.blk Y_5 (by omega)
        have S4a_6 := S4a_5.keepN k6 (by omega)
        have T6 := T5.keep k6
        clear K5 Y_5 S4a_5 T5 Z5
        have NS := S4a_6
        have KF := K6
        have RF := h6
        have ZF := Z6
        have KE := KF.set5 (b := w.heap.size) (by omega) (.int .i64 25) (.int .i64 0) (stv []) (.slice ao4 ks.len cap4) (.int .i64 a0)
        have RE := RF.set5 (b := w.heap.size) (by omega) (.int .i64 25) (.int .i64 0) (stv []) (.slice ao4 ks.len cap4) (.int .i64 a0)
        have ZE := set5k (.int .i64 25) (.int .i64 0) (stv []) (.slice ao4 ks.len cap4) (.int .i64 a0) ZF
        have SE : Slc _ (Nw w.heap.size) _ _ _ := (NS.set5 (b := w.heap.size) (by omega) (.int .i64 25) (.int .i64 0) (stv []) (.slice ao4 ks.len cap4) (.int .i64 a0)).low (by omega)
        obtain ⟨z0, z1, z2, z3, z4, zf⟩ := box5 ZF
        obtain ⟨u0, u1, u2, u3, u4, -⟩ := box5 ZE
        obtain ⟨y00, y01, y02, y03, y0f⟩ := Blk.cells4 (o := fun _ => 0) (i := 0) ⟨Y_6, rfl⟩
        have FIN : Hid (W = .ok ⟨25, 0, [], a0, ks⟩ t5) := by show W = _; rw [HW.out]; simp only [hr3, hr4, hr5, Rs.bind]
        clear HW ZE ZF KF RF NS K6 Z6 h6 T6 Y_6 S4a_6
        go_wp2
        exact bodyPost_ret (v := exV ⟨25, 0, [], a0, ks⟩ ao4 cap4) (by simp [results, Tryz.results157, go_sem, u0, u1, u2, u3, u4, exV]) rfl (by rw [FIN.out]; exact ⟨_, _, rfl, SE, RE, KE⟩)
end Go.Proofs.YtafnlhnenmpfoaaGreatDoor
