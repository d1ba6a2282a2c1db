/- The reader: parts in parentheses; a slice of trees that grows. -/
import Derived.Test.YtfpmaeflmboalaaGreatDoorSynE
namespace Go.Proofs.YtfpmaeflmboalaaGreatDoor
open Go.ChangeShapes Go.WideShapes Go.ChangeAt Go.RowKit
set_option linter.unusedVariables false
set_option linter.unusedSimpArgs false

theorem enter_le {s : List UInt8} {o : Nat} {ts : List Tk} {a : Nat} {r : List Tk} (h : enterT s o ts = .ok a r) (ho : o ≤ 64) : o + 1 ≤ 64 := by
  cases ts with
  | nil => cases h
  | cons x l =>
    unfold enterT at h
    by_cases hx : x.t = s
    · by_cases h64 : o = 64
      · simp [hx, h64] at h
      · omega
    · simp [hx] at h
set_option maxRecDepth 100000 in
set_option maxHeartbeats 2000000 in
theorem choice_r {rec : Rdr} (R : RecOk rec) {w : World} {rb o q : Nat} {ts : List Tk} (ho : o ≤ 64) (hq : q ≤ 4) (h : RdS w rb o q ts) (T : Tabs rb w) (hn : choiceR rec o q ts ≠ .out) :
    Calls Tryz.prog 114 #[.pointer (some ⟨rb, 0, none⟩)] w (PostE rb o q w (choiceR rec o q ts)) := by
  obtain ⟨W, hW⟩ : ∃ W, W = choiceR rec o q ts := ⟨_, rfl⟩
  rw [← hW] at hn ⊢
  have HW : Hid (W = choiceR rec o q ts) := hW
  have hrb := h.lt
  have K0 : Keep rb w (w.alloc exZ) := (Keep.refl rb w).alloc _
  have Z0 : (w.alloc exZ).heap[w.heap.size]? = some exZ := heap_alloc_new w _
  have h0 := h.alloc exZ
  have T0 := T.keep K0
  clear hW
  go_enter Tryz.func114, Tryz.ntmps114
  have c1 := enter_r [105, 102] h0 ho (fun e => hn (by rw [HW.out]; simp only [choiceR, e, Rs.bind]))
  go_wp2_with fail
  refine c1.mono ?_
  rintro e w1 hP
  clear c1
  cases hr1 : enterT [105, 102] o ts using Rs.on with
  | out => rw [hr1] at hP; exact hP.elim
  | bad er a =>
    rw [hr1] at hP
    obtain ⟨rfl, k1⟩ := hP
    have KB := K0.trans k1
    have FIN : Hid (W = .bad er a) := by show W = _; rw [HW.out]; simp only [choiceR, hr1, Rs.bind]
    clear HW
    go_wp2
    exact ⟨rfl, by rw [FIN.out]; exact And.intro rfl KB⟩
  | ok a0 t1 =>
    rw [hr1] at hP
    obtain ⟨rfl, h1, k1⟩ := hP
    have Z1 := k1.blk Z0 (by have := K0.size; omega)
    have K1 := K0.trans k1
    have T1 := T0.keep k1
    clear K0 T0 Z0
    have ho1 := enter_le hr1 ho
    have c2 := query_r R (o := o + 1) (q := q) (by omega) (by omega) h1 T1 (fun e => hn (by rw [HW.out]; simp only [choiceR, hr1, e, Rs.bind]))
    go_wp2_with fail
    refine c2.mono ?_
    rintro e w2 hP
    clear c2
    cases hr2 : rec 1 (o + 1) q t1 using Rs.on with
    | out => rw [hr2] at hP; exact hP.elim
    | bad er a =>
      rw [hr2] at hP
      obtain ⟨rfl, k2⟩ := hP
      have KB := K1.trans k2
      have FIN : Hid (W = .bad er a) := by show W = _; rw [HW.out]; simp only [choiceR, hr1, hr2, Rs.bind]
      clear HW
      go_wp2
      exact ⟨rfl, by rw [FIN.out]; exact And.intro rfl KB⟩
    | ok x2 t2 =>
      rw [hr2] at hP
      obtain ⟨ao2, cap2, rfl, S2, h2, k2⟩ := hP
      have S2a := S2.low (show (w.heap.size + 1) ≤ _ from (by have := lt_of_block Z1; omega))
      clear S2
      have Z2 := k2.blk Z1 (by have := K1.size; omega)
      have K2 := K1.trans k2
      have T2 := T1.keep k2
      clear K1 T1 Z1
      have h2a := h2.alloc (.cells #[.int .i64 x2.k, .int .i64 x2.n, stv x2.nm, .slice ao2 x2.kids.len cap2, .int .i64 x2.a] 25)
      have K2a := K2.alloc (.cells #[.int .i64 x2.k, .int .i64 x2.n, stv x2.nm, .slice ao2 x2.kids.len cap2, .int .i64 x2.a] 25)
      have Z2a := (Below.heap_alloc w2 (.cells #[.int .i64 x2.k, .int .i64 x2.n, stv x2.nm, .slice ao2 x2.kids.len cap2, .int .i64 x2.a] 25) _ (lt_of_block Z2)).trans Z2
      have Y2_a : (World.alloc w2 (.cells #[.int .i64 x2.k, .int .i64 x2.n, stv x2.nm, .slice ao2 x2.kids.len cap2, .int .i64 x2.a] 25)).heap[w2.heap.size]? = some (.cells #[.int .i64 x2.k, .int .i64 x2.n, stv x2.nm, .slice ao2 x2.kids.len cap2, .int .i64 x2.a] 25) := heap_alloc_new w2 _
      have S2a_2b := S2a.allocN (.cells #[.int .i64 x2.k, .int .i64 x2.n, stv x2.nm, .slice ao2 x2.kids.len cap2, .int .i64 x2.a] 25)
      have T2a := T2.keep ((Keep.refl rb w2).alloc (.cells #[.int .i64 x2.k, .int .i64 x2.n, stv x2.nm, .slice ao2 x2.kids.len cap2, .int .i64 x2.a] 25))
      have hb2 : rb < w2.heap.size := by have := K2.size; omega
      clear K2 Z2 S2a T2 h2
      rw [exV_out]
      have c3 := pass_r [116, 104, 101, 110] h2a (fun e => hn (by rw [HW.out]; simp only [choiceR, hr1, hr2, e, Rs.bind]))
      go_wp2_with fail
      refine c3.mono ?_
      rintro e w3 hP
      clear c3
      cases hr3 : passT [116, 104, 101, 110] t2 using Rs.on with
      | out => rw [hr3] at hP; exact hP.elim
      | bad er a =>
        rw [hr3] at hP
        obtain ⟨rfl, k3⟩ := hP
        have KB := K2a.trans k3
        have FIN : Hid (W = .bad er a) := by show W = _; rw [HW.out]; simp only [choiceR, hr1, hr2, hr3, Rs.bind]
        clear HW
        go_wp2
        exact ⟨rfl, by rw [FIN.out]; exact And.intro rfl KB⟩
      | ok x3 t3 =>
        rw [hr3] at hP
        obtain ⟨rfl, h3, k3⟩ := hP
        have Z3 := k3.blk Z2a (by have := K2a.size; omega)
        have K3 := K2a.trans k3
        have Y2_3 := k3.blk Y2_a (by omega)
        have S2a_3 := S2a_2b.keepN k3 (by omega)
        have T3 := T2a.keep k3
        clear K2a Y2_a S2a_2b T2a Z2a
        have hbb : rb < w3.heap.size := by have := K3.size; omega
        have c4 := query_r R (o := o + 1) (q := q) (by omega) (by omega) h3 T3 (fun e => hn (by rw [HW.out]; simp only [choiceR, hr1, hr2, hr3, e, Rs.bind]))
        go_wp2_with fail
        refine c4.mono ?_
        rintro e w4 hP
        clear c4
        cases hr4 : rec 1 (o + 1) q t3 using Rs.on with
        | out => rw [hr4] at hP; exact hP.elim
        | bad er a =>
          rw [hr4] at hP
          obtain ⟨rfl, k4⟩ := hP
          have KB := K3.trans k4
          have FIN : Hid (W = .bad er a) := by show W = _; rw [HW.out]; simp only [choiceR, hr1, hr2, hr3, hr4, Rs.bind]
          clear HW
          go_wp2
          exact ⟨rfl, by rw [FIN.out]; exact And.intro rfl KB⟩
        | ok x4 t4 =>
          rw [hr4] at hP
          obtain ⟨ao4, cap4, rfl, S4, h4, k4⟩ := hP
          have S4a := S4.low (show (w.heap.size + 1) ≤ _ from (by have := lt_of_block Z3; omega))
          clear S4
          have Z4 := k4.blk Z3 (by have := K3.size; omega)
          have K4 := K3.trans k4
          have Y2_4 := k4.blk Y2_3 (by omega)
          have S2a_4 := S2a_3.keepN k4 (by omega)
          have T4 := T3.keep k4
          clear K3 Y2_3 S2a_3 T3 Z3
          have h4a := h4.alloc (.cells #[.int .i64 x4.k, .int .i64 x4.n, stv x4.nm, .slice ao4 x4.kids.len cap4, .int .i64 x4.a] 25)
          have K4a := K4.alloc (.cells #[.int .i64 x4.k, .int .i64 x4.n, stv x4.nm, .slice ao4 x4.kids.len cap4, .int .i64 x4.a] 25)
          have Z4a := (Below.heap_alloc w4 (.cells #[.int .i64 x4.k, .int .i64 x4.n, stv x4.nm, .slice ao4 x4.kids.len cap4, .int .i64 x4.a] 25) _ (lt_of_block Z4)).trans Z4
          have Y2_4a := (Below.heap_alloc w4 (.cells #[.int .i64 x4.k, .int .i64 x4.n, stv x4.nm, .slice ao4 x4.kids.len cap4, .int .i64 x4.a] 25) _ (lt_of_block Y2_4)).trans Y2_4
          have Y4_a : (World.alloc w4 (.cells #[.int .i64 x4.k, .int .i64 x4.n, stv x4.nm, .slice ao4 x4.kids.len cap4, .int .i64 x4.a] 25)).heap[w4.heap.size]? = some (.cells #[.int .i64 x4.k, .int .i64 x4.n, stv x4.nm, .slice ao4 x4.kids.len cap4, .int .i64 x4.a] 25) := heap_alloc_new w4 _
          have S2a_4b := S2a_4.allocN (.cells #[.int .i64 x4.k, .int .i64 x4.n, stv x4.nm, .slice ao4 x4.kids.len cap4, .int .i64 x4.a] 25)
          have S4a_4b := S4a.allocN (.cells #[.int .i64 x4.k, .int .i64 x4.n, stv x4.nm, .slice ao4 x4.kids.len cap4, .int .i64 x4.a] 25)
          have T4a := T4.keep ((Keep.refl rb w4).alloc (.cells #[.int .i64 x4.k, .int .i64 x4.n, stv x4.nm, .slice ao4 x4.kids.len cap4, .int .i64 x4.a] 25))
          have hb4 : rb < w4.heap.size := by have := K4.size; omega
          clear K4 Z4 Y2_4 S2a_4 S4a T4 h4
          rw [exV_out]
          have c5 := pass_r [101, 108, 115, 101] h4a (fun e => hn (by rw [HW.out]; simp only [choiceR, hr1, hr2, hr3, hr4, e, Rs.bind]))
          go_wp2_with fail
          refine c5.mono ?_
          rintro e w5 hP
          clear c5
          cases hr5 : passT [101, 108, 115, 101] t4 using Rs.on with
          | out => rw [hr5] at hP; exact hP.elim
          | bad er a =>
            rw [hr5] at hP
            obtain ⟨rfl, k5⟩ := hP
            have KB := K4a.trans k5
            have FIN : Hid (W = .bad er a) := by show W = _; rw [HW.out]; simp only [choiceR, hr1, hr2, hr3, hr4, hr5, Rs.bind]
            clear HW
            go_wp2
            exact ⟨rfl, by rw [FIN.out]; exact And.intro rfl KB⟩
          | ok x5 t5 =>
            rw [hr5] at hP
            obtain ⟨rfl, h5, k5⟩ := hP
            have Z5 := k5.blk Z4a (by have := K4a.size; omega)
            have K5 := K4a.trans k5
            have Y2_5 := k5.blk Y2_4a (by omega)
            have Y4_5 := k5.blk Y4_a (by omega)
            have S2a_5 := S2a_4b.keepN k5 (by omega)
            have S4a_5 := S4a_4b.keepN k5 (by omega)
            have T5 := T4a.keep k5
            clear K4a Y2_4a Y4_a S2a_4b S4a_4b T4a Z4a
            have hbb : rb < w5.heap.size := by have := K5.size; omega
            have c6 := query_r R (o := o + 1) (q := q) (by omega) (by omega) h5 T5 (fun e => hn (by rw [HW.out]; simp only [choiceR, hr1, hr2, hr3, hr4, hr5, e, Rs.bind]))
            go_wp2_with fail
            refine c6.mono ?_
            rintro e w6 hP
            clear c6
            cases hr6 : rec 1 (o + 1) q t5 using Rs.on with
            | out => rw [hr6] at hP; exact hP.elim
            | bad er a =>
              rw [hr6] at hP
              obtain ⟨rfl, k6⟩ := hP
              have KB := K5.trans k6
              have FIN : Hid (W = .bad er a) := by show W = _; rw [HW.out]; simp only [choiceR, hr1, hr2, hr3, hr4, hr5, hr6, Rs.bind]
              clear HW
              go_wp2
              exact ⟨rfl, by rw [FIN.out]; exact And.intro rfl KB⟩
            | ok x6 t6 =>
              rw [hr6] at hP
              obtain ⟨ao6, cap6, rfl, S6, h6, k6⟩ := hP
              have S6a := S6.low (show (w.heap.size + 1) ≤ _ from (by have := lt_of_block Z5; omega))
              clear S6
              have Z6 := k6.blk Z5 (by have := K5.size; omega)
              have K6 := K5.trans k6
              have Y2_6 := k6.blk Y2_5 (by omega)
              have Y4_6 := k6.blk Y4_5 (by omega)
              have S2a_6 := S2a_5.keepN k6 (by omega)
              have S4a_6 := S4a_5.keepN k6 (by omega)
              have T6 := T5.keep k6
              clear K5 Y2_5 Y4_5 S2a_5 S4a_5 T5 Z5
              have h6a := h6.alloc (.cells #[.int .i64 x6.k, .int .i64 x6.n, stv x6.nm, .slice ao6 x6.kids.len cap6, .int .i64 x6.a] 25)
              have K6a := K6.alloc (.cells #[.int .i64 x6.k, .int .i64 x6.n, stv x6.nm, .slice ao6 x6.kids.len cap6, .int .i64 x6.a] 25)
              have Z6a := (Below.heap_alloc w6 (.cells #[.int .i64 x6.k, .int .i64 x6.n, stv x6.nm, .slice ao6 x6.kids.len cap6, .int .i64 x6.a] 25) _ (lt_of_block Z6)).trans Z6
              have Y2_6a := (Below.heap_alloc w6 (.cells #[.int .i64 x6.k, .int .i64 x6.n, stv x6.nm, .slice ao6 x6.kids.len cap6, .int .i64 x6.a] 25) _ (lt_of_block Y2_6)).trans Y2_6
              have Y4_6a := (Below.heap_alloc w6 (.cells #[.int .i64 x6.k, .int .i64 x6.n, stv x6.nm, .slice ao6 x6.kids.len cap6, .int .i64 x6.a] 25) _ (lt_of_block Y4_6)).trans Y4_6
              have Y6_a : (World.alloc w6 (.cells #[.int .i64 x6.k, .int .i64 x6.n, stv x6.nm, .slice ao6 x6.kids.len cap6, .int .i64 x6.a] 25)).heap[w6.heap.size]? = some (.cells #[.int .i64 x6.k, .int .i64 x6.n, stv x6.nm, .slice ao6 x6.kids.len cap6, .int .i64 x6.a] 25) := heap_alloc_new w6 _
              have S2a_6b := S2a_6.allocN (.cells #[.int .i64 x6.k, .int .i64 x6.n, stv x6.nm, .slice ao6 x6.kids.len cap6, .int .i64 x6.a] 25)
              have S4a_6b := S4a_6.allocN (.cells #[.int .i64 x6.k, .int .i64 x6.n, stv x6.nm, .slice ao6 x6.kids.len cap6, .int .i64 x6.a] 25)
              have S6a_6b := S6a.allocN (.cells #[.int .i64 x6.k, .int .i64 x6.n, stv x6.nm, .slice ao6 x6.kids.len cap6, .int .i64 x6.a] 25)
              have T6a := T6.keep ((Keep.refl rb w6).alloc (.cells #[.int .i64 x6.k, .int .i64 x6.n, stv x6.nm, .slice ao6 x6.kids.len cap6, .int .i64 x6.a] 25))
              have hb6 : rb < w6.heap.size := by have := K6.size; omega
              clear K6 Z6 Y2_6 Y4_6 S2a_6 S4a_6 S6a T6 h6
              rw [exV_out]
              have c7 := leave_r h6a ho
              go_wp2_with fail
              refine c7.mono ?_
              rintro e w7 ⟨rfl, h7, k7⟩
              clear c7
              have Z7 := k7.blk Z6a (by have := K6a.size; omega)
              have K7 := K6a.trans k7
              have Y2_7 := k7.blk Y2_6a (by omega)
              have Y4_7 := k7.blk Y4_6a (by omega)
              have Y6_7 := k7.blk Y6_a (by omega)
              have S2a_7 := S2a_6b.keepN k7 (by omega)
              have S4a_7 := S4a_6b.keepN k7 (by omega)
              have S6a_7 := S6a_6b.keepN k7 (by omega)
              have T7 := T6a.keep k7
              clear K6a Y2_6a Y4_6a Y6_a S2a_6b S4a_6b S6a_6b T6a Z6a
              have NS : Sl (World.alloc w7 (.cells [.int .i64 x2.k, .int .i64 x2.n, stv x2.nm, .slice ao2 x2.kids.len cap2, .int .i64 x2.a, .int .i64 x4.k, .int .i64 x4.n, stv x4.nm, .slice ao4 x4.kids.len cap4, .int .i64 x4.a, .int .i64 x6.k, .int .i64 x6.n, stv x6.nm, .slice ao6 x6.kids.len cap6, .int .i64 x6.a].toArray 25)) (Nw (w.heap.size + 1)) (((one x2).snoc x4).snoc x6) (some ⟨w7.heap.size, 0, none⟩) := Sl.fresh _ 25 (Fc.app (Fc.app (Fc.one (e := x2) cap2 S2a_7) (Fc.one (e := x4) cap4 S4a_7)) (Fc.one (e := x6) cap6 S6a_7)) (by have := lt_of_block Z7; omega)
              have KF := K7.alloc (.cells [.int .i64 x2.k, .int .i64 x2.n, stv x2.nm, .slice ao2 x2.kids.len cap2, .int .i64 x2.a, .int .i64 x4.k, .int .i64 x4.n, stv x4.nm, .slice ao4 x4.kids.len cap4, .int .i64 x4.a, .int .i64 x6.k, .int .i64 x6.n, stv x6.nm, .slice ao6 x6.kids.len cap6, .int .i64 x6.a].toArray 25)
              have RF := h7.alloc (.cells [.int .i64 x2.k, .int .i64 x2.n, stv x2.nm, .slice ao2 x2.kids.len cap2, .int .i64 x2.a, .int .i64 x4.k, .int .i64 x4.n, stv x4.nm, .slice ao4 x4.kids.len cap4, .int .i64 x4.a, .int .i64 x6.k, .int .i64 x6.n, stv x6.nm, .slice ao6 x6.kids.len cap6, .int .i64 x6.a].toArray 25)
              have ZF := (Below.heap_alloc w7 (.cells [.int .i64 x2.k, .int .i64 x2.n, stv x2.nm, .slice ao2 x2.kids.len cap2, .int .i64 x2.a, .int .i64 x4.k, .int .i64 x4.n, stv x4.nm, .slice ao4 x4.kids.len cap4, .int .i64 x4.a, .int .i64 x6.k, .int .i64 x6.n, stv x6.nm, .slice ao6 x6.kids.len cap6, .int .i64 x6.a].toArray 25) _ (lt_of_block Z7)).trans Z7
              have KE := KF.set5 (b := w.heap.size) (by omega) (.int .i64 19) (.int .i64 0) (stv []) (.slice (some ⟨w7.heap.size, 0, none⟩) 3 3) (.int .i64 a0)
              have RE := RF.set5 (b := w.heap.size) (by omega) (.int .i64 19) (.int .i64 0) (stv []) (.slice (some ⟨w7.heap.size, 0, none⟩) 3 3) (.int .i64 a0)
              have ZE := set5k (.int .i64 19) (.int .i64 0) (stv []) (.slice (some ⟨w7.heap.size, 0, none⟩) 3 3) (.int .i64 a0) ZF
              have SE : Sl _ (Nw w.heap.size) _ _ := (NS.set5 (b := w.heap.size) (by omega) (.int .i64 19) (.int .i64 0) (stv []) (.slice (some ⟨w7.heap.size, 0, none⟩) 3 3) (.int .i64 a0)).low (by omega)
              obtain ⟨z0, z1, z2, z3, z4, zf⟩ := box5 ZF
              obtain ⟨u0, u1, u2, u3, u4, -⟩ := box5 ZE
              obtain ⟨y00, y01, y02, y03, y04, y0f⟩ := box5 Y2_7
              obtain ⟨y10, y11, y12, y13, y14, y1f⟩ := box5 Y4_7
              obtain ⟨y20, y21, y22, y23, y24, y2f⟩ := box5 Y6_7
              have FIN : Hid (W = .ok ⟨19, 0, [], a0, (((one x2).snoc x4).snoc x6)⟩ t6) := by show W = _; rw [HW.out]; simp only [choiceR, hr1, hr2, hr3, hr4, hr5, hr6, Rs.bind]
              clear HW ZE ZF KF RF NS K7 Z7 h7 T7 Y2_7 Y4_7 Y6_7 S2a_7 S4a_7 S6a_7
              go_wp2
              exact bodyPost_ret (v := exV ⟨19, 0, [], a0, (((one x2).snoc x4).snoc x6)⟩ (some ⟨w7.heap.size, 0, none⟩) 3) (by simp [results, Tryz.results114, go_sem, u0, u1, u2, u3, u4, exV]; rfl) rfl (by rw [FIN.out]; exact ⟨_, _, rfl, SE, RE, KE⟩)
end Go.Proofs.YtfpmaeflmboalaaGreatDoor
namespace Go.Proofs.YtfpmaeflmboalaaGreatDoor
open Go.ChangeShapes Go.WideShapes Go.ChangeAt Go.RowKit
set_option linter.unusedVariables false

/-- A slice of trees that grows: in a block of its own; all below it lies elsewhere. -/
def AccG (w : World) (n0 : Nat) (acc : Fs) (g cap : Nat) (xs : List Value) : Prop :=
  n0 ≤ g ∧ w.ownsRow 0 25 5 (.slice (some ⟨g, 0, none⟩) acc.len cap) acc.len xs ∧ Fc w (fun b => n0 ≤ b ∧ b ≠ g) acc xs
def Acc (w : World) (n0 : Nat) (acc : Fs) (v : Value) : Prop := ∃ g cap xs, v = .slice (some ⟨g, 0, none⟩) acc.len cap ∧ AccG w n0 acc g cap xs
def lab1 (g : Nat) : Nat → Nat := fun b => if b = g then 1 else 0
theorem AccG.row {w : World} {n0 : Nat} {acc : Fs} {g cap : Nat} {xs : List Value} (h : AccG w n0 acc g cap xs) : Row w (lab1 g) 1 25 5 (.slice (some ⟨g, 0, none⟩) acc.len cap) acc.len xs :=
  ⟨h.2.1, fun k hk => by simp [Value.ownBlock] at hk; subst hk; simp [lab1]⟩
theorem Acc.one {w : World} {n0 : Nat} {e : Ex} {ao : Option Addr} (cap : Nat) (h : Sl w (Nw n0) e.kids ao) (hn : n0 ≤ w.heap.size) :
    Acc (w.alloc (.cells #[.int .i64 e.k, .int .i64 e.n, stv e.nm, .slice ao e.kids.len cap, .int .i64 e.a] 25)) n0 (one e) (.slice (some ⟨w.heap.size, 0, none⟩) 1 1) := by
  refine ⟨w.heap.size, 1, _, rfl, hn, World.ownsRow_lit w _ 1 (Nat.zero_le _) (by unfold maxLen; omega) (by simp), ?_⟩
  exact (Fc.one cap h).mono (fun i hp hl => Below.heap_alloc w _ i hl) (by simp) (fun i hp hl => ⟨hp, Nat.ne_of_lt hl⟩)
theorem Acc.keep {rb n0 : Nat} {w w' : World} {acc : Fs} {v : Value} (h : Acc w n0 acc v) (k : Keep rb w w') (hn : rb < n0) : Acc w' n0 acc v := by
  obtain ⟨g, cap, xs, rfl, hg, ho, hf⟩ := h
  have r : Row w (fun b => if b = rb then 7 else 1) 1 25 5 (.slice (some ⟨g, 0, none⟩) acc.len cap) acc.len xs := ⟨ho, fun j hj => by simp [Value.ownBlock] at hj; subst hj; show (if g = rb then 7 else 1) = 1; rw [if_neg (by omega)]⟩
  have s : Step (fun x => x = 7) w (fun b => if b = rb then 7 else 1) w' (fun b => if b = rb then 7 else 1) := ⟨k.os, k.tape, k.output, k.size, fun _ _ => rfl, fun j hj hn => k.block j hj (fun e => hn (by simp [e]))⟩
  exact ⟨g, cap, xs, rfl, hg, (r.step s (by decide)).1, hf.mono (fun i hp hl => k.block i hl (by have := hp.1; omega)) k.size (fun _ h _ => h)⟩
theorem Acc.sl {w : World} {n0 : Nat} {acc : Fs} {v : Value} (h : Acc w n0 acc v) : ∃ ao cap, v = .slice ao acc.len cap ∧ Sl w (Nw n0) acc ao := by
  obtain ⟨g, cap, xs, rfl, h⟩ := h
  refine ⟨_, cap, rfl, ?_⟩
  by_cases h0 : 0 < acc.len
  · obtain ⟨g', cap', hv, _, _, _, hlt, hc, _⟩ := h.row.pos h0
    simp only [Value.slice.injEq, Option.some.injEq, Addr.mk.injEq, true_and, and_true] at hv
    obtain ⟨rfl, rfl⟩ := hv
    have hl := h.row.len
    refine Sl.of h.1 hlt (fun j u hu => ?_) (h.2.2.mono (fun _ _ _ => rfl) (Nat.le_refl _) (fun _ hp _ => hp.1))
    rw [Nat.zero_add, hc j ?_]
    · exact hu
    · rw [← hl]
      by_cases hj : j < xs.length
      · exact hj
      · rw [List.getElem?_eq_none (by omega)] at hu
        cases hu
  · refine .inl ?_
    cases acc using Fs.on with
    | nil => rfl
    | cons k n nm a ks r => simp [Fs.len] at h0
theorem Keep.step1 {rb g : Nat} {a w w2 : World} {o2 : Nat → Nat} (K : Keep rb a w) (s : Step (fun x => x = 1) w (lab1 g) w2 o2) (hg : a.heap.size ≤ g) : Keep rb a w2 :=
  ⟨s.os.trans K.os, s.tape.trans K.tape, s.output.trans K.output, Nat.le_trans K.size s.size, fun k hk hn => (s.block k (Nat.lt_of_lt_of_le hk K.size) (by unfold lab1; rw [if_neg (by omega)]; decide)).trans (K.block k hk hn)⟩
theorem RdS.step1 {rb g o q : Nat} {ts : List Tk} {w w2 : World} {o2 : Nat → Nat} (h : RdS w rb o q ts) (s : Step (fun x => x = 1) w (lab1 g) w2 o2) (hg : rb < g) : RdS w2 rb o q ts := by
  have hlt := h.lt
  obtain ⟨g', cap, all, i, h1, h2, h4, h5⟩ := h
  exact ⟨g', cap, all, i, (s.block rb hlt (by unfold lab1; rw [if_neg (by omega)]; decide)).trans h1, h2, fun j u hu => (World.cell?_of_block (a := ⟨g', j, none⟩) (s.block g' (by omega) (by unfold lab1; rw [if_neg (by omega)]; decide))).trans (h4 j u hu), h5⟩
/-- One more. -/
theorem Acc.push {w w2 : World} {o2 : Nat → Nat} {n0 n1 g cap g2 c2 : Nat} {acc : Fs} {xs : List Value} {e : Ex} {ao : Option Addr} {ce : Nat} (h : AccG w n0 acc g cap xs) (S : Sl w (Nw n1) e.kids ao) (hn1 : g < n1) (hw : n0 ≤ w.heap.size)
    (s : Step (fun x => x = 1) w (lab1 g) w2 o2) (r : Row w2 o2 1 25 5 (.slice (some ⟨g2, 0, none⟩) (acc.len + 1) c2) (acc.len + 1) (xs ++ [.int .i64 e.k, .int .i64 e.n, stv e.nm, .slice ao e.kids.len ce, .int .i64 e.a])) :
    Acc w2 n0 (acc.snoc e) (.slice (some ⟨g2, 0, none⟩) (acc.len + 1) c2) := by
  have hl : (acc.snoc e).len = acc.len + 1 := Fs.len_snoc acc e
  have h2 : o2 g2 = 1 := r.2 g2 rfl
  have hlt2 : g2 < w2.heap.size := r.lt rfl
  have hg2 : n0 ≤ g2 := by
    by_cases hlt : g2 < w.heap.size
    · have := (s.lab g2 hlt).symm.trans h2
      unfold lab1 at this
      by_cases e : g2 = g
      · rw [e]; exact h.1
      · rw [if_neg e] at this; cases this
    · omega
  have hb : ∀ k, (n0 ≤ k ∧ k ≠ g) → k < w.heap.size → w2.heap[k]? = w.heap[k]? := fun k hk hl => s.block k hl (by unfold lab1; rw [if_neg hk.2]; decide)
  have hq : ∀ k, (n0 ≤ k ∧ k ≠ g) → k < w.heap.size → (n0 ≤ k ∧ k ≠ g2) := fun k hk hl => ⟨hk.1, fun e => by
    have := (s.lab k hl).symm.trans (e ▸ h2)
    unfold lab1 at this
    rw [if_neg hk.2] at this
    cases this⟩
  refine ⟨g2, c2, xs ++ [.int .i64 e.k, .int .i64 e.n, stv e.nm, .slice ao e.kids.len ce, .int .i64 e.a], by rw [hl], hg2, by rw [hl]; exact r.1, ?_⟩
  have F1 := h.2.2.mono hb s.size hq
  have S1 : Sl w2 (fun b => n0 ≤ b ∧ b ≠ g2) e.kids ao := S.mono (fun k hk hl => hb k ⟨by have hk : n1 ≤ k := hk; have := h.1; omega, by have hk : n1 ≤ k := hk; omega⟩ hl) s.size (fun k hk hl => hq k ⟨by have hk : n1 ≤ k := hk; have := h.1; omega, by have hk : n1 ≤ k := hk; omega⟩ hl)
  exact F1.app (Fc.one ce S1)
theorem infoExpr : (Tryz.prog.info? 25).map (fun i => (i.zero, i.size, i.bytes)) = some (some (.agg #[.int .i64 0, .int .i64 0, .string ⟨#[]⟩, .slice none 0 0, .int .i64 0]), 5, 64) := by kernel_rfl
def slLen : Value → Nat
  | .slice _ n _ => n
  | _ => 0
end Go.Proofs.YtfpmaeflmboalaaGreatDoor
