/- The program's reader, with room for each list (mkcap.py writes this text out of SynK). -/
import Derived.Test.YtafnlhnenmpfoaaGreatDoorScJ
namespace Go.Proofs.YtafnlhnenmpfoaaGreatDoor
open Go.ChangeShapes Go.WideShapes Go.ChangeAt Go.RowKit
set_option linter.unusedVariables false
set_option linter.unusedSimpArgs false

set_option maxRecDepth 100000 in
set_option maxHeartbeats 2000000 in
theorem quant_rc {rec : Rdr} (R : RecOkc rec) {w : World} {rb o q : Nat} {ts : List Tk} (m : Nat) (hm : m ≤ 1000000) (s : List UInt8) (n : Nat) (ho : o ≤ 64) (hq : q ≤ 4) (h : RdS w rb o q ts) (T : Tabs rb w) (hn : quantR rec m s n o q ts ≠ .out) :
    Calls Tryz.prog 147 #[.pointer (some ⟨rb, 0, none⟩), .agg #[stv s, .int .i64 (n : Nat)]] w (PostEc rb o q w (quantR rec m s n o q ts)) := by
  obtain ⟨W, hW⟩ : ∃ W, W = quantR rec m s n o q ts := ⟨_, rfl⟩
  rw [← hW] at hn ⊢
  have HW : Hid (W = quantR rec m s n o q ts) := hW
  have hrb := h.lt
  clear hW
  cases ts with
  | nil => exact absurd HW.out hn
  | cons x r =>
  have K0 : Keep rb w ((w.alloc (.cells #[stv s, .int .i64 (n : Nat)] 133)).alloc (.cells #[.int .i64 0, .int .i64 0, .string ⟨#[]⟩, .slice none 0 0, .int .i64 0] 25)) := ((Keep.refl rb w).alloc _).alloc _
  have h0 := (h.alloc (.cells #[stv s, .int .i64 (n : Nat)] 133)).alloc (.cells #[.int .i64 0, .int .i64 0, .string ⟨#[]⟩, .slice none 0 0, .int .i64 0] 25)
  have hsz : (w.alloc (.cells #[stv s, .int .i64 (n : Nat)] 133)).heap.size = w.heap.size + 1 := by simp
  have Z0 : ((w.alloc (.cells #[stv s, .int .i64 (n : Nat)] 133)).alloc (.cells #[.int .i64 0, .int .i64 0, .string ⟨#[]⟩, .slice none 0 0, .int .i64 0] 25)).heap[w.heap.size + 1]? = some (.cells #[.int .i64 0, .int .i64 0, .string ⟨#[]⟩, .slice none 0 0, .int .i64 0] 25) := by rw [← hsz]; exact heap_alloc_new _ _
  have Q0 : ((w.alloc (.cells #[stv s, .int .i64 (n : Nat)] 133)).alloc (.cells #[.int .i64 0, .int .i64 0, .string ⟨#[]⟩, .slice none 0 0, .int .i64 0] 25)).heap[w.heap.size]? = some (.cells #[stv s, .int .i64 (n : Nat)] 133 (0, 0)) := (Below.heap_alloc _ (.cells #[.int .i64 0, .int .i64 0, .string ⟨#[]⟩, .slice none 0 0, .int .i64 0] 25) _ (by rw [hsz]; omega)).trans (heap_alloc_new w _)
  clear hsz
  obtain ⟨d2, d3, df, -, hs3⟩ := h0.cells
  go_enter Tryz.func147, Tryz.ntmps147
  go_upto_region 1 with fail
  generalize (w.alloc (.cells #[stv s, .int .i64 (n : Nat)] 133)).alloc (.cells #[.int .i64 0, .int .i64 0, .string ⟨#[]⟩, .slice none 0 0, .int .i64 0] 25) = w0 at *
  by_cases h4 : q = 4
  · have FIN : Hid (W = .bad 121 x.a) := by show W = _; rw [HW.out]; simp [quantR, h4]
    have c1 := refused_r 121 h0
    subst h4
    clear HW hs3 Z0 Q0 T
    go_wp2_with fail
    refine c1.mono ?_
    rintro e w1 ⟨rfl, b1⟩
    have KB := K0.trans (Keep.ofBelow (rb := rb) b1)
    clear c1 b1 K0
    go_wp2
    exact ⟨rfl, by rw [FIN.out]; exact And.intro rfl KB⟩
  have h4b : ((q : Int) == 4) = false := by rw [beq_eq_false_iff_ne]; omega
  have hq1 : q + 1 ≤ 4 := by omega
  have HW1 : Hid (W = (enterT s o (x :: r)).bind fun a t1 => (passK 2 t1).bind fun y t2 => (passT [105, 110] t2).bind fun _ t3 => (setR rec m (o + 1) (q + 1) t3).bind fun e t4 => (passT [58] t4).bind fun _ t5 => (rec 1 (o + 1) (q + 1) t5).bind fun b t6 => .ok ⟨21, (n : Nat), y.t, a, (one e).snoc b⟩ t6) := by show W = _; rw [HW.out]; simp only [quantR, h4, if_false]
  clear HW
  have HW := HW1
  clear HW1
  have eq1 : ((q + 1 : Nat) : Int) = (q : Int) + 1 := by omega
  have h1 := hs3 (q + 1)
  rw [eq1] at h1
  have K1 := K0.set ⟨rb, 3, none⟩ (.int .i64 ((q : Int) + 1)) (.inr rfl)
  have Z1 := (heap_setCell_other w0 ⟨rb, 3, none⟩ (w.heap.size + 1) (.int .i64 ((q : Int) + 1)) (show w.heap.size + 1 ≠ rb by omega)).trans Z0
  have Q_1 := (heap_setCell_other w0 ⟨rb, 3, none⟩ w.heap.size (.int .i64 ((q : Int) + 1)) (show w.heap.size ≠ rb by omega)).trans Q0
  have T1 := T.keep K1
  obtain ⟨p0, p1, pf⟩ := Blk.cells2 (o := fun _ => 0) (i := 0) ⟨Q_1, rfl⟩
  have f2 := tk_f2
  clear h4 hs3 K0 Z0 Q0 h0
  have c2 := enter_r s h1 ho (fun e => hn (by rw [HW.out, e]; rfl))
  go_wp2_with fail
  refine c2.mono ?_
  rintro e w2 hP
  clear c2
  cases hr2 : enterT s o (x :: r) using Rs.on with
  | out => rw [hr2] at hP; exact hP.elim
  | bad er a =>
    rw [hr2] at hP
    obtain ⟨rfl, k2⟩ := hP
    have KB := K1.trans k2
    have FIN : Hid (W = .bad er a) := by show W = _; rw [HW.out]; simp only [if_true, hr2, Rs.bind]
    clear HW
    go_wp2
    exact ⟨rfl, by rw [FIN.out]; exact And.intro rfl KB⟩
  | ok a0 t2 =>
    rw [hr2] at hP
    obtain ⟨rfl, h2, k2⟩ := hP
    have Z2 := k2.blk Z1 (by have := K1.size; omega)
    have K2 := K1.trans k2
    have Q_2 := k2.blk Q_1 (by omega)
    have T2 := T1.keep k2
    clear K1 Q_1 T1 Z1
    have ho1 := enter_le hr2 ho
    clear p0 p1 pf d2 d3 df h4b
    have c3 := passKind_r 2 h2 (fun e => hn (by rw [HW.out]; simp only [hr2, e, Rs.bind]))
    go_wp2_with fail
    refine c3.mono ?_
    rintro e w3 hP
    clear c3
    cases hr3 : passK 2 t2 using Rs.on with
    | out => rw [hr3] at hP; exact hP.elim
    | bad er a =>
      rw [hr3] at hP
      obtain ⟨rfl, k3⟩ := hP
      have KB := K2.trans k3
      have FIN : Hid (W = .bad er a) := by show W = _; rw [HW.out]; simp only [hr2, hr3, Rs.bind]
      clear HW
      go_wp2
      exact ⟨rfl, by rw [FIN.out]; exact And.intro rfl KB⟩
    | ok y t3 =>
      rw [hr3] at hP
      obtain ⟨rfl, h3, k3⟩ := hP
      have Z3 := k3.blk Z2 (by have := K2.size; omega)
      have K3 := K2.trans k3
      have Q_3 := k3.blk Q_2 (by omega)
      have T3 := T2.keep k3
      clear K2 Q_2 T2 Z2
      unfold tkV
      have c4 := pass_r [105, 110] h3 (fun e => hn (by rw [HW.out]; simp only [hr2, hr3, e, Rs.bind]))
      go_wp2_with fail
      refine c4.mono ?_
      rintro e w4 hP
      clear c4
      cases hr4 : passT [105, 110] t3 using Rs.on with
      | out => rw [hr4] at hP; exact hP.elim
      | bad er a =>
        rw [hr4] at hP
        obtain ⟨rfl, k4⟩ := hP
        have KB := K3.trans k4
        have FIN : Hid (W = .bad er a) := by show W = _; rw [HW.out]; simp only [hr2, hr3, hr4, Rs.bind]
        clear HW
        go_wp2
        exact ⟨rfl, by rw [FIN.out]; exact And.intro rfl KB⟩
      | ok x4 t4 =>
        rw [hr4] at hP
        obtain ⟨rfl, h4, k4⟩ := hP
        have Z4 := k4.blk Z3 (by have := K3.size; omega)
        have K4 := K3.trans k4
        have Q_4 := k4.blk Q_3 (by omega)
        have T4 := T3.keep k4
        clear K3 Q_3 T3 Z3
        have c5 := set_rc R m hm ho1 hq1 h4 T4 (fun e => hn (by rw [HW.out]; simp only [hr2, hr3, hr4, e, Rs.bind]))
        go_wp2_with fail
        refine c5.mono ?_
        rintro e w5 hP
        clear c5
        cases hr5 : setR rec m (o + 1) (q + 1) t4 using Rs.on with
        | out => rw [hr5] at hP; exact hP.elim
        | bad er a =>
          rw [hr5] at hP
          obtain ⟨rfl, k5⟩ := hP
          have KB := K4.trans k5
          have FIN : Hid (W = .bad er a) := by show W = _; rw [HW.out]; simp only [hr2, hr3, hr4, hr5, Rs.bind]
          clear HW
          go_wp2
          exact ⟨rfl, by rw [FIN.out]; exact And.intro rfl KB⟩
        | ok se t5 =>
          rw [hr5] at hP
          obtain ⟨ao5, cap5, rfl, S5, h5, k5⟩ := hP
          have S5a := S5.low (show (w.heap.size + 2) ≤ _ from (by have := lt_of_block Z4; omega))
          clear S5
          have Z5 := k5.blk Z4 (by have := K4.size; omega)
          have K5 := K4.trans k5
          have Q_5 := k5.blk Q_4 (by omega)
          have T5 := T4.keep k5
          clear K4 Q_4 T4 Z4
          have h5a := h5.alloc (.cells #[.int .i64 se.k, .int .i64 se.n, stv se.nm, .slice ao5 se.kids.len cap5, .int .i64 se.a] 25)
          have K5a := K5.alloc (.cells #[.int .i64 se.k, .int .i64 se.n, stv se.nm, .slice ao5 se.kids.len cap5, .int .i64 se.a] 25)
          have Z5a := (Below.heap_alloc w5 (.cells #[.int .i64 se.k, .int .i64 se.n, stv se.nm, .slice ao5 se.kids.len cap5, .int .i64 se.a] 25) _ (lt_of_block Z5)).trans Z5
          have Q_5a := (Below.heap_alloc w5 (.cells #[.int .i64 se.k, .int .i64 se.n, stv se.nm, .slice ao5 se.kids.len cap5, .int .i64 se.a] 25) _ (lt_of_block Q_5)).trans Q_5
          have Y5_a : (World.alloc w5 (.cells #[.int .i64 se.k, .int .i64 se.n, stv se.nm, .slice ao5 se.kids.len cap5, .int .i64 se.a] 25)).heap[w5.heap.size]? = some (.cells #[.int .i64 se.k, .int .i64 se.n, stv se.nm, .slice ao5 se.kids.len cap5, .int .i64 se.a] 25) := heap_alloc_new w5 _
          have S5a_5b := S5a.allocN (.cells #[.int .i64 se.k, .int .i64 se.n, stv se.nm, .slice ao5 se.kids.len cap5, .int .i64 se.a] 25)
          have T5a := T5.keep ((Keep.refl rb w5).alloc (.cells #[.int .i64 se.k, .int .i64 se.n, stv se.nm, .slice ao5 se.kids.len cap5, .int .i64 se.a] 25))
          have hb5 : rb < w5.heap.size := by have := K5.size; omega
          clear K5 Z5 Q_5 S5a T5 h5
          rw [exV_out]
          have c6 := pass_r [58] h5a (fun e => hn (by rw [HW.out]; simp only [hr2, hr3, hr4, hr5, e, Rs.bind]))
          go_wp2_with fail
          refine c6.mono ?_
          rintro e w6 hP
          clear c6
          cases hr6 : passT [58] t5 using Rs.on with
          | out => rw [hr6] at hP; exact hP.elim
          | bad er a =>
            rw [hr6] at hP
            obtain ⟨rfl, k6⟩ := hP
            have KB := K5a.trans k6
            have FIN : Hid (W = .bad er a) := by show W = _; rw [HW.out]; simp only [hr2, hr3, hr4, hr5, hr6, Rs.bind]
            clear HW
            go_wp2
            exact ⟨rfl, by rw [FIN.out]; exact And.intro rfl KB⟩
          | ok x6 t6 =>
            rw [hr6] at hP
            obtain ⟨rfl, h6, k6⟩ := hP
            have Z6 := k6.blk Z5a (by have := K5a.size; omega)
            have K6 := K5a.trans k6
            have Q_6 := k6.blk Q_5a (by omega)
            have Y5_6 := k6.blk Y5_a (by omega)
            have S5a_6 := S5a_5b.keepN k6 (by omega)
            have T6 := T5a.keep k6
            clear K5a Q_5a Y5_a S5a_5b T5a Z5a
            have c7 := query_rc R (o := o + 1) (q := q + 1) (by omega) (by omega) h6 T6 (fun e => hn (by rw [HW.out]; simp only [hr2, hr3, hr4, hr5, hr6, e, Rs.bind]))
            go_wp2_with fail
            refine c7.mono ?_
            rintro e w7 hP
            clear c7
            cases hr7 : rec 1 (o + 1) (q + 1) t6 using Rs.on with
            | out => rw [hr7] at hP; exact hP.elim
            | bad er a =>
              rw [hr7] at hP
              obtain ⟨rfl, k7⟩ := hP
              have KB := K6.trans k7
              have FIN : Hid (W = .bad er a) := by show W = _; rw [HW.out]; simp only [hr2, hr3, hr4, hr5, hr6, hr7, Rs.bind]
              clear HW
              go_wp2
              exact ⟨rfl, by rw [FIN.out]; exact And.intro rfl KB⟩
            | ok x7 t7 =>
              rw [hr7] at hP
              obtain ⟨ao7, cap7, rfl, S7, h7, k7⟩ := hP
              have S7a := S7.low (show (w.heap.size + 2) ≤ _ from (by have := lt_of_block Z6; omega))
              clear S7
              have Z7 := k7.blk Z6 (by have := K6.size; omega)
              have K7 := K6.trans k7
              have Q_7 := k7.blk Q_6 (by omega)
              have Y5_7 := k7.blk Y5_6 (by omega)
              have S5a_7 := S5a_6.keepN k7 (by omega)
              have T7 := T6.keep k7
              clear K6 Q_6 Y5_6 S5a_6 T6 Z6
              have h7a := h7.alloc (.cells #[.int .i64 x7.k, .int .i64 x7.n, stv x7.nm, .slice ao7 x7.kids.len cap7, .int .i64 x7.a] 25)
              have K7a := K7.alloc (.cells #[.int .i64 x7.k, .int .i64 x7.n, stv x7.nm, .slice ao7 x7.kids.len cap7, .int .i64 x7.a] 25)
              have Z7a := (Below.heap_alloc w7 (.cells #[.int .i64 x7.k, .int .i64 x7.n, stv x7.nm, .slice ao7 x7.kids.len cap7, .int .i64 x7.a] 25) _ (lt_of_block Z7)).trans Z7
              have Q_7a := (Below.heap_alloc w7 (.cells #[.int .i64 x7.k, .int .i64 x7.n, stv x7.nm, .slice ao7 x7.kids.len cap7, .int .i64 x7.a] 25) _ (lt_of_block Q_7)).trans Q_7
              have Y5_7a := (Below.heap_alloc w7 (.cells #[.int .i64 x7.k, .int .i64 x7.n, stv x7.nm, .slice ao7 x7.kids.len cap7, .int .i64 x7.a] 25) _ (lt_of_block Y5_7)).trans Y5_7
              have Y7_a : (World.alloc w7 (.cells #[.int .i64 x7.k, .int .i64 x7.n, stv x7.nm, .slice ao7 x7.kids.len cap7, .int .i64 x7.a] 25)).heap[w7.heap.size]? = some (.cells #[.int .i64 x7.k, .int .i64 x7.n, stv x7.nm, .slice ao7 x7.kids.len cap7, .int .i64 x7.a] 25) := heap_alloc_new w7 _
              have S5a_7b := S5a_7.allocN (.cells #[.int .i64 x7.k, .int .i64 x7.n, stv x7.nm, .slice ao7 x7.kids.len cap7, .int .i64 x7.a] 25)
              have S7a_7b := S7a.allocN (.cells #[.int .i64 x7.k, .int .i64 x7.n, stv x7.nm, .slice ao7 x7.kids.len cap7, .int .i64 x7.a] 25)
              have T7a := T7.keep ((Keep.refl rb w7).alloc (.cells #[.int .i64 x7.k, .int .i64 x7.n, stv x7.nm, .slice ao7 x7.kids.len cap7, .int .i64 x7.a] 25))
              have hb7 : rb < w7.heap.size := by have := K7.size; omega
              clear K7 Z7 Q_7 Y5_7 S5a_7 S7a T7 h7
              rw [exV_out]
              have c8 := leave_r h7a ho
              go_wp2_with fail
              refine c8.mono ?_
              rintro e w8 ⟨rfl, h8, k8⟩
              clear c8
              have Z8 := k8.blk Z7a (by have := K7a.size; omega)
              have K8 := K7a.trans k8
              have Q_8 := k8.blk Q_7a (by omega)
              have Y5_8 := k8.blk Y5_7a (by omega)
              have Y7_8 := k8.blk Y7_a (by omega)
              have S5a_8 := S5a_7b.keepN k8 (by omega)
              have S7a_8 := S7a_7b.keepN k8 (by omega)
              have T8 := T7a.keep k8
              clear K7a Q_7a Y5_7a Y7_a S5a_7b S7a_7b T7a Z7a
              obtain ⟨d2, d3, df, -, hs3⟩ := h8.cells
              have h9 := hs3 q
              rw [eq1] at d3
              have k9 := (Keep.refl rb w8).set ⟨rb, 3, none⟩ (.int .i64 (q : Nat)) (.inr rfl)
              have Z9 := k9.blk Z8 (by have := K8.size; omega)
              have K9 := K8.trans k9
              have Q_9 := k9.blk Q_8 (by omega)
              have Y5_9 := k9.blk Y5_8 (by omega)
              have Y7_9 := k9.blk Y7_8 (by omega)
              have S5a_9 := S5a_8.keepN k9 (by omega)
              have S7a_9 := S7a_8.keepN k9 (by omega)
              have T9 := T8.keep k9
              clear K8 Q_8 Y5_8 Y7_8 S5a_8 S7a_8 T8 Z8
              go_upto_region 12 with fail
              clear hs3 k9 d2 d3 df
              generalize w8.setCell ⟨rb, 3, none⟩ (.int .i64 (q : Nat)) = w9 at *
              have NS : Slc (World.alloc w9 (.cells [.int .i64 se.k, .int .i64 se.n, stv se.nm, .slice ao5 se.kids.len cap5, .int .i64 se.a, .int .i64 x7.k, .int .i64 x7.n, stv x7.nm, .slice ao7 x7.kids.len cap7, .int .i64 x7.a].toArray 25)) (Nw (w.heap.size + 2)) ((one se).snoc x7) (some ⟨w9.heap.size, 0, none⟩) 2 := Slc.fresh _ (FcC.app (FcC.one (e := se) cap5 S5a_9) (FcC.one (e := x7) cap7 S7a_9)) (by have := lt_of_block Z9; omega) 2 rfl
              have KF := K9.alloc (.cells [.int .i64 se.k, .int .i64 se.n, stv se.nm, .slice ao5 se.kids.len cap5, .int .i64 se.a, .int .i64 x7.k, .int .i64 x7.n, stv x7.nm, .slice ao7 x7.kids.len cap7, .int .i64 x7.a].toArray 25)
              have RF := h9.alloc (.cells [.int .i64 se.k, .int .i64 se.n, stv se.nm, .slice ao5 se.kids.len cap5, .int .i64 se.a, .int .i64 x7.k, .int .i64 x7.n, stv x7.nm, .slice ao7 x7.kids.len cap7, .int .i64 x7.a].toArray 25)
              have ZF := (Below.heap_alloc w9 (.cells [.int .i64 se.k, .int .i64 se.n, stv se.nm, .slice ao5 se.kids.len cap5, .int .i64 se.a, .int .i64 x7.k, .int .i64 x7.n, stv x7.nm, .slice ao7 x7.kids.len cap7, .int .i64 x7.a].toArray 25) _ (lt_of_block Z9)).trans Z9
              have KE := KF.set5 (b := (w.heap.size + 1)) (by omega) (.int .i64 21) (.int .i64 (n : Nat)) (stv y.t) (.slice (some ⟨w9.heap.size, 0, none⟩) 2 2) (.int .i64 a0)
              have RE := RF.set5 (b := (w.heap.size + 1)) (by omega) (.int .i64 21) (.int .i64 (n : Nat)) (stv y.t) (.slice (some ⟨w9.heap.size, 0, none⟩) 2 2) (.int .i64 a0)
              have ZE := set5k (.int .i64 21) (.int .i64 (n : Nat)) (stv y.t) (.slice (some ⟨w9.heap.size, 0, none⟩) 2 2) (.int .i64 a0) ZF
              have SE : Slc _ (Nw w.heap.size) _ _ _ := (NS.set5 (b := (w.heap.size + 1)) (by omega) (.int .i64 21) (.int .i64 (n : Nat)) (stv y.t) (.slice (some ⟨w9.heap.size, 0, none⟩) 2 2) (.int .i64 a0)).low (by omega)
              obtain ⟨z0, z1, z2, z3, z4, zf⟩ := box5 ZF
              obtain ⟨u0, u1, u2, u3, u4, -⟩ := box5 ZE
              obtain ⟨y00, y01, y0f⟩ := Blk.cells2 (o := fun _ => 0) (i := 0) ⟨Q_9, rfl⟩
              obtain ⟨y10, y11, y12, y13, y14, y1f⟩ := box5 Y5_9
              obtain ⟨y20, y21, y22, y23, y24, y2f⟩ := box5 Y7_9
              have FIN : Hid (W = .ok ⟨21, (n : Nat), y.t, a0, ((one se).snoc x7)⟩ t7) := by show W = _; rw [HW.out]; simp only [hr2, hr3, hr4, hr5, hr6, hr7, Rs.bind]
              clear HW ZE ZF KF RF NS K9 Z9 h9 T9 Q_9 Y5_9 Y7_9 S5a_9 S7a_9
              go_wp2
              exact bodyPost_ret (v := exV ⟨21, (n : Nat), y.t, a0, ((one se).snoc x7)⟩ (some ⟨w9.heap.size, 0, none⟩) 2) (by simp [results, Tryz.results147, go_sem, u0, u1, u2, u3, u4, exV]; rfl) rfl (by rw [FIN.out]; exact ⟨_, _, rfl, SE, RE, KE⟩)
end Go.Proofs.YtafnlhnenmpfoaaGreatDoor
