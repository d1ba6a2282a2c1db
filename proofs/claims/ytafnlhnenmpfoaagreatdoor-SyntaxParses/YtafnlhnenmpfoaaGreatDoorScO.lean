/- The program's reader, with room for each list (mkcap.py writes this text out of SynO). -/
import Derived.Test.YtafnlhnenmpfoaaGreatDoorScL
import Derived.Deep.LoopGhost
namespace Go.Proofs.YtafnlhnenmpfoaaGreatDoor
open Go.ChangeShapes Go.WideShapes Go.ChangeAt Go.RowKit
set_option linter.unusedVariables false
set_option linter.unusedSimpArgs false

set_option maxRecDepth 100000 in
set_option maxHeartbeats 4000000 in
theorem chain_rc {rec : Rdr} (R : RecOkc rec) {w : World} {rb o q : Nat} {ts : List Tk} (m row : Nat) (hrow : row ≤ 7) (ho : o ≤ 64) (hq : q ≤ 4) (h : RdS w rb o q ts) (T : Tabs rb w) (hn : ((rec (row + 1) o q ts).bind fun l t => chainL rec m row o q l t) ≠ .out) :
    Calls Tryz.prog 123 #[.pointer (some ⟨rb, 0, none⟩), .int .i64 (row : Nat)] w (PostEc rb o q w ((rec (row + 1) o q ts).bind fun l t => chainL rec m row o q l t)) := by
  obtain ⟨W, hW⟩ : ∃ W, W = ((rec (row + 1) o q ts).bind fun l t => chainL rec m row o q l t) := ⟨_, rfl⟩
  rw [← hW] at hn ⊢
  have HW : Hid (W = ((rec (row + 1) o q ts).bind fun l t => chainL rec m row o q l t)) := hW
  have hrb := h.lt
  have K0 : Keep rb w (w.alloc exZ) := (Keep.refl rb w).alloc _
  have Z0 : (w.alloc exZ).heap[w.heap.size]? = some exZ := heap_alloc_new w _
  have h0 := h.alloc exZ
  have T0 := T.keep K0
  have c1 := R (w.alloc exZ) rb (row + 1) o q ts (by omega) ho hq h0 T0 (fun e => hn (by rw [HW.out, e]; rfl))
  have er1 : ((row + 1 : Nat) : Int) = (row : Int) + 1 := by omega
  rw [er1] at c1
  clear hW er1
  go_enter Tryz.func123, Tryz.ntmps123
  go_wp2_with fail
  refine c1.mono ?_
  rintro e w1 hP
  clear c1
  cases hr1 : rec (row + 1) o q ts using Rs.on with
  | out => rw [hr1] at hP; exact hP.elim
  | bad er a =>
    rw [hr1] at hP
    obtain ⟨rfl, k1⟩ := hP
    have KB := K0.trans k1
    have FIN : Hid (W = .bad er a) := by show W = _; rw [HW.out, hr1]; rfl
    clear HW
    go_wp2
    exact ⟨rfl, by rw [FIN.out]; exact And.intro rfl KB⟩
  | ok l t1 =>
    rw [hr1] at hP
    obtain ⟨ao1, cap1, rfl, S1, h1, k1⟩ := hP
    have HA : Hid (chainL rec m row o q l t1 = W) := by show _ = W; rw [HW.out, hr1]; rfl
    have Z1 := k1.blk Z0 (by omega)
    have K1 := K0.trans k1
    have hz1 : w.heap.size < w1.heap.size := lt_of_block Z1
    have S1a := S1.low (show w.heap.size + 1 ≤ (w.alloc exZ).heap.size by simp)
    have S2 := (S1a.toB' (Nat.le_refl _)).allocB (.cells #[.int .i64 l.k, .int .i64 l.n, stv l.nm, .slice ao1 l.kids.len cap1, .int .i64 l.a] 25)
    have h2 := h1.alloc (.cells #[.int .i64 l.k, .int .i64 l.n, stv l.nm, .slice ao1 l.kids.len cap1, .int .i64 l.a] 25)
    have K2 := K1.alloc (.cells #[.int .i64 l.k, .int .i64 l.n, stv l.nm, .slice ao1 l.kids.len cap1, .int .i64 l.a] 25)
    have Z2 := (Below.heap_alloc w1 (.cells #[.int .i64 l.k, .int .i64 l.n, stv l.nm, .slice ao1 l.kids.len cap1, .int .i64 l.a] 25) _ (lt_of_block Z1)).trans Z1
    have L2 : (w1.alloc (.cells #[.int .i64 l.k, .int .i64 l.n, stv l.nm, .slice ao1 l.kids.len cap1, .int .i64 l.a] 25)).heap[w1.heap.size]? = some (.cells #[.int .i64 l.k, .int .i64 l.n, stv l.nm, .slice ao1 l.kids.len cap1, .int .i64 l.a] 25) := heap_alloc_new w1 _
    obtain ⟨bl, hbl⟩ : ∃ bl, bl = w1.heap.size := ⟨_, rfl⟩
    rw [← hbl] at S2 L2 hz1
    have HBL : Hid (bl = w1.heap.size) := hbl
    clear HW hr1 Z0 K0 h0 T0 k1 K1 Z1 S1 S1a h1 hbl
    rw [exV_out]
    go_wp2
    rw [← HBL.out]
    clear HBL
    go_loopg [7] m (fun g _ wr => ∃ left ti ao cap, Hid (chainL rec g row o q left ti = W) ∧ wr.heap[bl]? = some (.cells #[.int .i64 left.k, .int .i64 left.n, stv left.nm, .slice ao left.kids.len cap, .int .i64 left.a] 25 (0, 0)) ∧ Slc wr (Nb (w.heap.size + 1) bl) left.kids ao cap ∧ RdS wr rb o q ti ∧ Keep rb w wr ∧ wr.heap[w.heap.size]? = some (.cells #[.int .i64 0, .int .i64 0, .string ⟨#[]⟩, .slice none 0 0, .int .i64 0] 25 (0, 0)))
    case atStart => exact ⟨l, t1, ao1, cap1, HA, L2, S2, h2, K2, Z2⟩
    case round =>
      clear HA L2 S2 h2 K2 Z2
      obtain ⟨left, ti, ao, cap, HA, L3, S3, h3, K3, Z3⟩ := hrel
      cases gk with
      | zero => exact absurd HA.out.symm hn
      | succ gk =>
      cases ti with
      | nil => exact absurd HA.out.symm hn
      | cons x r =>
      have hz3 : w.heap.size < wr.heap.size := lt_of_block Z3
      have c4 := token_r h3
      unfold tkV at c4
      have f2 := tk_f2
      go_wp2_with fail
      refine c4.mono ?_
      rintro e w4 ⟨rfl, b4⟩
      have k4 : Keep rb wr w4 := Keep.ofBelow b4
      have h4 := h3.below b4
      have Z4 := k4.blk Z3 (by omega)
      have L4 := k4.blk L3 (by omega)
      have K4 := K3.trans k4
      have S4 := S3.keepB k4 (by omega)
      have T4 := T.keep K4
      have c5 := opAt_r x.t row _ T4.op
      clear c4 b4 k4 h3 Z3 L3 K3 S3 hz3
      go_wp2_with fail
      refine c5.mono ?_
      rintro e w5 ⟨rfl, b5⟩
      have k5 : Keep rb w4 w5 := Keep.ofBelow b5
      have h5 := h4.below b5
      have Z5 := k5.blk Z4 (by omega)
      have L5 := k5.blk L4 (by omega)
      have K5 := K4.trans k5
      have S5 := S4.keepB k5 (by omega)
      clear c5 b5 k5 h4 Z4 L4 K4 S4 T4
      cases hz : opAt x.t row with
      | none =>
        rw [show opsL.find? (fun y => y.1 == x.t && y.2.2.1 == row) = none from hz]
        unfold opF
        simp only
        have FIN : Hid (W = .ok left (x :: r)) := by show W = _; rw [← HA.out]; simp only [chainL, hz]
        have h6 := h5.alloc (.cells #[.string ⟨#[]⟩, .int .i64 0, .int .i64 0, .int .i64 0, .int .i64 0] 137)
        have K6 := K5.alloc (.cells #[.string ⟨#[]⟩, .int .i64 0, .int .i64 0, .int .i64 0, .int .i64 0] 137)
        have Z6 := (Below.heap_alloc w5 (.cells #[.string ⟨#[]⟩, .int .i64 0, .int .i64 0, .int .i64 0, .int .i64 0] 137) _ (lt_of_block Z5)).trans Z5
        have L6 := (Below.heap_alloc w5 (.cells #[.string ⟨#[]⟩, .int .i64 0, .int .i64 0, .int .i64 0, .int .i64 0] 137) _ (lt_of_block L5)).trans L5
        have S6 := S5.allocB (.cells #[.string ⟨#[]⟩, .int .i64 0, .int .i64 0, .int .i64 0, .int .i64 0] 137)
        have KE := K6.set5 (b := w.heap.size) (by omega) (.int .i64 left.k) (.int .i64 left.n) (stv left.nm) (.slice ao left.kids.len cap) (.int .i64 left.a)
        have RE := h6.set5 (b := w.heap.size) (by omega) (.int .i64 left.k) (.int .i64 left.n) (stv left.nm) (.slice ao left.kids.len cap) (.int .i64 left.a)
        have ZE := set5k (.int .i64 left.k) (.int .i64 left.n) (stv left.nm) (.slice ao left.kids.len cap) (.int .i64 left.a) Z6
        have SE : Slc _ (Nw w.heap.size) _ _ _ := (S6.set5B (b := w.heap.size) (.inr (by omega)) (.int .i64 left.k) (.int .i64 left.n) (stv left.nm) (.slice ao left.kids.len cap) (.int .i64 left.a)).lowB (by omega)
        obtain ⟨z0, z1, z2, z3, z4, zf⟩ := box5 Z6
        obtain ⟨v0, v1, v2, v3, v4, vf⟩ := box5 L6
        obtain ⟨u0, u1, u2, u3, u4, -⟩ := box5 ZE
        clear HA hz h5 K5 Z5 L5 S5 h6 K6 Z6 L6 S6 ZE
        go_wp2
        exact bodyPost_ret (v := exV left ao cap) (by simp [results, Tryz.results123, go_sem, u0, u1, u2, u3, u4, exV]) rfl (by rw [FIN.out]; exact ⟨_, _, rfl, SE, RE, KE⟩)
      | some z =>
        obtain ⟨hzt, hz8⟩ := opAt_ok hz
        obtain ⟨zt, zk, zr, zl, zz⟩ := z
        simp only at hzt hz8
        rw [show opsL.find? (fun y => y.1 == x.t && y.2.2.1 == row) = some (zt, zk, zr, zl, zz) from hz]
        unfold opF
        simp only
        have HA1 : Hid (W = (rec zz o q r).bind fun right t2 => if row < zl then .ok ⟨(zk : Nat), 0, [], x.a, (one left).snoc right⟩ t2 else chainL rec gk row o q ⟨(zk : Nat), 0, [], x.a, (one left).snoc right⟩ t2) := by show W = _; rw [← HA.out]; simp only [chainL, hz]
        have h6 := h5.alloc (.cells #[stv zt, .int .i64 (zk : Nat), .int .i64 (zr : Nat), .int .i64 (zl : Nat), .int .i64 (zz : Nat)] 137)
        have K6 := K5.alloc (.cells #[stv zt, .int .i64 (zk : Nat), .int .i64 (zr : Nat), .int .i64 (zl : Nat), .int .i64 (zz : Nat)] 137)
        have Z6 := (Below.heap_alloc w5 (.cells #[stv zt, .int .i64 (zk : Nat), .int .i64 (zr : Nat), .int .i64 (zl : Nat), .int .i64 (zz : Nat)] 137) _ (lt_of_block Z5)).trans Z5
        have L6 := (Below.heap_alloc w5 (.cells #[stv zt, .int .i64 (zk : Nat), .int .i64 (zr : Nat), .int .i64 (zl : Nat), .int .i64 (zz : Nat)] 137) _ (lt_of_block L5)).trans L5
        have S6 := S5.allocB (.cells #[stv zt, .int .i64 (zk : Nat), .int .i64 (zr : Nat), .int .i64 (zl : Nat), .int .i64 (zz : Nat)] 137)
        have O6 : (w5.alloc (.cells #[stv zt, .int .i64 (zk : Nat), .int .i64 (zr : Nat), .int .i64 (zl : Nat), .int .i64 (zz : Nat)] 137)).heap[w5.heap.size]? = some (.cells #[stv zt, .int .i64 (zk : Nat), .int .i64 (zr : Nat), .int .i64 (zl : Nat), .int .i64 (zz : Nat)] 137) := heap_alloc_new w5 _
        have hbo : w.heap.size < w5.heap.size := lt_of_block Z5
        have hbo2 : bl < w5.heap.size := lt_of_block L5
        have c6 := pass_r zt h6 (by simp [passT, hzt])
        rw [show passT zt (x :: r) = .ok x.a r by simp [passT, hzt]] at c6
        have c6 : Calls _ _ _ _ (fun e w' => e = .returned (.int .i64 (x.a : Nat)) ∧ RdS w' rb o q r ∧ Keep rb _ w') := c6
        clear HA hz h5 K5 Z5 L5 S5 h6 hzt
        go_wp2_with fail
        refine c6.mono ?_
        rintro e w6 ⟨rfl, h7, k7⟩
        have K7 := K6.trans k7
        have Z7 := k7.blk Z6 (by omega)
        have L7 := k7.blk L6 (by omega)
        have O7 := k7.blk O6 (by omega)
        have S7 := S6.keepB k7 (by omega)
        have T7 := T.keep K7
        have c7 := R w6 rb zz o q r hz8 ho hq h7 T7 (fun e => hn (by rw [HA1.out, e]; rfl))
        obtain ⟨q0, q1, q2, q3, q4, qf⟩ := box5 O7
        generalize w5.heap.size = bo at *
        clear c6 k7 K6 Z6 L6 O6 S6
        go_wp2_with fail
        refine c7.mono ?_
        rintro e w7 hP
        clear c7 q0 q1 q2 q3 q4 qf
        cases hr7 : rec zz o q r using Rs.on with
        | out => rw [hr7] at hP; exact hP.elim
        | bad er a =>
          rw [hr7] at hP
          obtain ⟨rfl, k8⟩ := hP
          have KB := K7.trans k8
          have FIN : Hid (W = .bad er a) := by show W = _; rw [HA1.out, hr7]; rfl
          clear HA1
          go_wp2
          exact ⟨rfl, by rw [FIN.out]; exact And.intro rfl KB⟩
        | ok y t7 =>
          rw [hr7] at hP
          obtain ⟨ao6, cap6, rfl, S8, h8, k8⟩ := hP
          have hl6 : bl < w6.heap.size := lt_of_block L7
          have hz6 : w.heap.size < w6.heap.size := lt_of_block Z7
          have SY := (S8.toB (n := w.heap.size + 1) (bl := bl) (by omega) hl6).allocB (.cells #[.int .i64 y.k, .int .i64 y.n, stv y.nm, .slice ao6 y.kids.len cap6, .int .i64 y.a] 25)
          have K8 := (K7.trans k8).alloc (.cells #[.int .i64 y.k, .int .i64 y.n, stv y.nm, .slice ao6 y.kids.len cap6, .int .i64 y.a] 25)
          have Z8' := k8.blk Z7 (by omega)
          have L8' := k8.blk L7 (by omega)
          have O8' := k8.blk O7 (by omega)
          have Z8 := (Below.heap_alloc w7 (.cells #[.int .i64 y.k, .int .i64 y.n, stv y.nm, .slice ao6 y.kids.len cap6, .int .i64 y.a] 25) _ (lt_of_block Z8')).trans Z8'
          have L8 := (Below.heap_alloc w7 (.cells #[.int .i64 y.k, .int .i64 y.n, stv y.nm, .slice ao6 y.kids.len cap6, .int .i64 y.a] 25) _ (lt_of_block L8')).trans L8'
          have O8 := (Below.heap_alloc w7 (.cells #[.int .i64 y.k, .int .i64 y.n, stv y.nm, .slice ao6 y.kids.len cap6, .int .i64 y.a] 25) _ (lt_of_block O8')).trans O8'
          have Y8 : (w7.alloc (.cells #[.int .i64 y.k, .int .i64 y.n, stv y.nm, .slice ao6 y.kids.len cap6, .int .i64 y.a] 25)).heap[w7.heap.size]? = some (.cells #[.int .i64 y.k, .int .i64 y.n, stv y.nm, .slice ao6 y.kids.len cap6, .int .i64 y.a] 25) := heap_alloc_new w7 _
          have SL := (S7.keepB k8 (by omega)).allocB (.cells #[.int .i64 y.k, .int .i64 y.n, stv y.nm, .slice ao6 y.kids.len cap6, .int .i64 y.a] 25)
          have h9 := h8.alloc (.cells #[.int .i64 y.k, .int .i64 y.n, stv y.nm, .slice ao6 y.kids.len cap6, .int .i64 y.a] 25)
          have HA2 : Hid (W = if row < zl then .ok ⟨(zk : Nat), 0, [], x.a, (one left).snoc y⟩ t7 else chainL rec gk row o q ⟨(zk : Nat), 0, [], x.a, (one left).snoc y⟩ t7) := by show W = _; rw [HA1.out, hr7]; rfl
          clear HA1 hr7 S8 h8 k8 K7 Z7 L7 O7 S7 T7 h7 Z8' L8' O8' hl6 hz6
          rw [exV_out]
          go_upto_region 7 with fail
          generalize w7.alloc (.cells #[.int .i64 y.k, .int .i64 y.n, stv y.nm, .slice ao6 y.kids.len cap6, .int .i64 y.a] 25) = w8 at *
          generalize w7.heap.size = br at *
          obtain ⟨p0, p1, p2, p3, p4, pf⟩ := box5 L8
          obtain ⟨q0, q1, q2, q3, q4, qf⟩ := box5 O8
          obtain ⟨y0, y1, y2, y3, y4, yf⟩ := box5 Y8
          have F8 : FcC w8 (Nb (w.heap.size + 1) bl) ((one left).snoc y) [.int .i64 left.k, .int .i64 left.n, stv left.nm, .slice ao left.kids.len cap, .int .i64 left.a, .int .i64 y.k, .int .i64 y.n, stv y.nm, .slice ao6 y.kids.len cap6, .int .i64 y.a] := FcC.app (FcC.one (e := left) cap SL) (FcC.one (e := y) cap6 SY)
          have NS := Slc.freshB _ F8 (lt_of_block Z8) (lt_of_block L8) 2 rfl
          have S9 := NS.set5B (b := bl) (.inl rfl) (.int .i64 (zk : Nat)) (.int .i64 0) (stv []) (.slice (some ⟨w8.heap.size, 0, none⟩) 2 2) (.int .i64 (x.a : Nat))
          have K9 := (K8.alloc (.cells [.int .i64 left.k, .int .i64 left.n, stv left.nm, .slice ao left.kids.len cap, .int .i64 left.a, .int .i64 y.k, .int .i64 y.n, stv y.nm, .slice ao6 y.kids.len cap6, .int .i64 y.a].toArray 25)).set5 (b := bl) (by omega) (.int .i64 (zk : Nat)) (.int .i64 0) (stv []) (.slice (some ⟨w8.heap.size, 0, none⟩) 2 2) (.int .i64 (x.a : Nat))
          have h10 := (h9.alloc (.cells [.int .i64 left.k, .int .i64 left.n, stv left.nm, .slice ao left.kids.len cap, .int .i64 left.a, .int .i64 y.k, .int .i64 y.n, stv y.nm, .slice ao6 y.kids.len cap6, .int .i64 y.a].toArray 25)).set5 (b := bl) (by omega) (.int .i64 (zk : Nat)) (.int .i64 0) (stv []) (.slice (some ⟨w8.heap.size, 0, none⟩) 2 2) (.int .i64 (x.a : Nat))
          have Z9 := (heap_set5 (w8.alloc (.cells [.int .i64 left.k, .int .i64 left.n, stv left.nm, .slice ao left.kids.len cap, .int .i64 left.a, .int .i64 y.k, .int .i64 y.n, stv y.nm, .slice ao6 y.kids.len cap6, .int .i64 y.a].toArray 25)) bl w.heap.size (.int .i64 (zk : Nat)) (.int .i64 0) (stv []) (.slice (some ⟨w8.heap.size, 0, none⟩) 2 2) (.int .i64 (x.a : Nat)) (by omega)).trans ((Below.heap_alloc w8 (.cells [.int .i64 left.k, .int .i64 left.n, stv left.nm, .slice ao left.kids.len cap, .int .i64 left.a, .int .i64 y.k, .int .i64 y.n, stv y.nm, .slice ao6 y.kids.len cap6, .int .i64 y.a].toArray 25) _ (lt_of_block Z8)).trans Z8)
          have O9 := (heap_set5 (w8.alloc (.cells [.int .i64 left.k, .int .i64 left.n, stv left.nm, .slice ao left.kids.len cap, .int .i64 left.a, .int .i64 y.k, .int .i64 y.n, stv y.nm, .slice ao6 y.kids.len cap6, .int .i64 y.a].toArray 25)) bl bo (.int .i64 (zk : Nat)) (.int .i64 0) (stv []) (.slice (some ⟨w8.heap.size, 0, none⟩) 2 2) (.int .i64 (x.a : Nat)) (by omega)).trans ((Below.heap_alloc w8 (.cells [.int .i64 left.k, .int .i64 left.n, stv left.nm, .slice ao left.kids.len cap, .int .i64 left.a, .int .i64 y.k, .int .i64 y.n, stv y.nm, .slice ao6 y.kids.len cap6, .int .i64 y.a].toArray 25) _ (lt_of_block O8)).trans O8)
          have L9' := (Below.heap_alloc w8 (.cells [.int .i64 left.k, .int .i64 left.n, stv left.nm, .slice ao left.kids.len cap, .int .i64 left.a, .int .i64 y.k, .int .i64 y.n, stv y.nm, .slice ao6 y.kids.len cap6, .int .i64 y.a].toArray 25) _ (lt_of_block L8)).trans L8
          have L9 := set5k (.int .i64 (zk : Nat)) (.int .i64 0) (stv []) (.slice (some ⟨w8.heap.size, 0, none⟩) 2 2) (.int .i64 (x.a : Nat)) L9'
          obtain ⟨m0, m1, m2, m3, m4, mf⟩ := box5 L9'
          clear F8 NS K8 h9 Z8 O8 L8 Y8 SL SY L9'
          go_upto_region 8 with fail
          generalize (World.setCell (World.setCell (World.setCell (World.setCell (World.setCell (w8.alloc (.cells #[.int .i64 left.k, .int .i64 left.n, stv left.nm, .slice ao left.kids.len cap, .int .i64 left.a, .int .i64 y.k, .int .i64 y.n, stv y.nm, .slice ao6 y.kids.len cap6, .int .i64 y.a] 25)) ⟨bl, 0, none⟩ (.int .i64 (zk : Nat))) ⟨bl, 1, none⟩ (.int .i64 0)) ⟨bl, 2, none⟩ (.string ⟨#[]⟩)) ⟨bl, 3, none⟩ (.slice (some ⟨w8.heap.size, 0, none⟩) 2 2)) ⟨bl, 4, none⟩ (.int .i64 (x.a : Nat))) = w9 at *
          generalize w8.heap.size = bk at *
          clear p0 p1 p2 p3 p4 pf q0 q1 q2 q3 q4 qf y0 y1 y2 y3 y4 yf m0 m1 m2 m3 m4 mf
          obtain ⟨q0, q1, q2, q3, q4, qf⟩ := box5 O9
          obtain ⟨p0, p1, p2, p3, p4, pf⟩ := box5 L9
          by_cases hlt : row < zl
          · have hltI : (row : Int) < (zl : Int) := by omega
            have FIN : Hid (W = .ok ⟨(zk : Nat), 0, [], x.a, (one left).snoc y⟩ t7) := by show W = _; rw [HA2.out, if_pos hlt]
            have KE := K9.set5 (b := w.heap.size) (by omega) (.int .i64 (zk : Nat)) (.int .i64 0) (stv []) (.slice (some ⟨bk, 0, none⟩) 2 2) (.int .i64 (x.a : Nat))
            have RE := h10.set5 (b := w.heap.size) (by omega) (.int .i64 (zk : Nat)) (.int .i64 0) (stv []) (.slice (some ⟨bk, 0, none⟩) 2 2) (.int .i64 (x.a : Nat))
            have ZE := set5k (.int .i64 (zk : Nat)) (.int .i64 0) (stv []) (.slice (some ⟨bk, 0, none⟩) 2 2) (.int .i64 (x.a : Nat)) Z9
            have SE : Slc _ (Nw w.heap.size) _ _ _ := (S9.set5B (b := w.heap.size) (.inr (by omega)) (.int .i64 (zk : Nat)) (.int .i64 0) (stv []) (.slice (some ⟨bk, 0, none⟩) 2 2) (.int .i64 (x.a : Nat))).lowB (by omega)
            obtain ⟨z0, z1, z2, z3, z4, zf⟩ := box5 Z9
            obtain ⟨u0, u1, u2, u3, u4, -⟩ := box5 ZE
            clear HA2 K9 h10 Z9 O9 L9 S9 ZE hlt
            go_wp2
            exact bodyPost_ret (v := exV ⟨(zk : Nat), 0, [], x.a, (one left).snoc y⟩ (some ⟨bk, 0, none⟩) 2) (by simp [results, Tryz.results123, go_sem, u0, u1, u2, u3, u4, exV]; rfl) rfl (by rw [FIN.out]; exact ⟨_, _, rfl, SE, RE, KE⟩)
          · have hltI : ¬ (row : Int) < (zl : Int) := by omega
            have HA3 : Hid (chainL rec gk row o q ⟨(zk : Nat), 0, [], x.a, (one left).snoc y⟩ t7 = W) := by show _ = W; rw [HA2.out, if_neg hlt]
            clear HA2 hlt
            go_wp2
            go_roundg gk
            case rel => (try ((repeat apply Exists.intro); refine ⟨?_, rfl⟩)); exact ⟨⟨(zk : Nat), 0, [], x.a, (one left).snoc y⟩, t7, (some ⟨bk, 0, none⟩), 2, HA3, L9, S9, h10, K9, Z9⟩
            all_goals omega
end Go.Proofs.YtafnlhnenmpfoaaGreatDoor
namespace Go.Proofs.YtafnlhnenmpfoaaGreatDoor
open Go.ChangeShapes Go.WideShapes Go.ChangeAt Go.RowKit
set_option linter.unusedVariables false
set_option linter.unusedSimpArgs false

set_option maxRecDepth 100000 in
set_option maxHeartbeats 2000000 in
theorem part_stepc {n : Nat} (R : RecOkc (partF n)) (hm : n ≤ 1000000) : RecOkc (partF (n + 1)) := by
  intro w rb row o q ts hrow ho hq h T hn
  obtain ⟨W, hW⟩ : ∃ W, W = partF (n + 1) row o q ts := ⟨_, rfl⟩
  rw [← hW] at hn ⊢
  have HW : Hid (W = partF (n + 1) row o q ts) := hW
  have hrb := h.lt
  have K0 : Keep rb w (w.alloc exZ) := (Keep.refl rb w).alloc _
  have Z0 : (w.alloc exZ).heap[w.heap.size]? = some exZ := heap_alloc_new w _
  have h0 := h.alloc exZ
  have T0 := T.keep K0
  clear hW
  by_cases hr3 : row = 3
  · have HW1 : Hid (W = prefR (partF n) [110, 111, 116] 7 3 o q ts) := by show W = _; rw [HW.out]; simp [partF, hr3]
    subst hr3
    clear HW
    have HW := HW1
    clear HW1
    go_enter Tryz.func79, Tryz.ntmps79
    have c1 := pref_rc R [110, 111, 116] 7 3 (by omega) ho hq h0 T0 (fun e => hn (by rw [HW.out]; exact e))
    simp only [show ((7 : Nat) : Int) = 7 from rfl] at c1
    simp only [show ((3 : Nat) : Int) = 3 from rfl] at c1
    go_wp2_with fail
    refine c1.mono ?_
    rintro e w1 hP
    clear c1
    rw [← HW.out] at hP
    clear HW
    cases W using Rs.on with
    | out => exact hP.elim
    | bad er a =>
      obtain ⟨rfl, k1⟩ := hP
      have KB := K0.trans k1
      go_wp2
      exact ⟨rfl, And.intro rfl KB⟩
    | ok y t1 =>
      obtain ⟨ao1, cap1, rfl, S1, h1, k1⟩ := hP
      have S1a := S1.low (show w.heap.size + 1 ≤ (w.alloc exZ).heap.size by simp)
      clear S1
      have Z1 := k1.blk Z0 (by have := K0.size; omega)
      have K1 := K0.trans k1
      have T1 := T0.keep k1
      clear K0 T0 Z0
      have KE := K1.set5 (b := w.heap.size) (by omega) (.int .i64 y.k) (.int .i64 y.n) (stv y.nm) (.slice ao1 y.kids.len cap1) (.int .i64 y.a)
      have RE := h1.set5 (b := w.heap.size) (by omega) (.int .i64 y.k) (.int .i64 y.n) (stv y.nm) (.slice ao1 y.kids.len cap1) (.int .i64 y.a)
      have ZE := set5k (.int .i64 y.k) (.int .i64 y.n) (stv y.nm) (.slice ao1 y.kids.len cap1) (.int .i64 y.a) Z1
      have SE : Slc _ (Nw w.heap.size) _ _ _ := (S1a.set5 (b := w.heap.size) (by omega) (.int .i64 y.k) (.int .i64 y.n) (stv y.nm) (.slice ao1 y.kids.len cap1) (.int .i64 y.a)).low (by omega)
      obtain ⟨z0, z1, z2, z3, z4, zf⟩ := box5 Z1
      obtain ⟨u0, u1, u2, u3, u4, -⟩ := box5 ZE
      clear ZE S1a K1 Z1 h1 T1 k1
      rw [exV_out]
      go_wp2
      exact bodyPost_ret (v := exV y ao1 cap1) (by simp [results, Tryz.results79, go_sem, u0, u1, u2, u3, u4, exV]) rfl ⟨ao1, cap1, rfl, SE, RE, KE⟩
  by_cases hr7 : row = 7
  · have HW1 : Hid (W = prefR (partF n) [45] 6 7 o q ts) := by show W = _; rw [HW.out]; simp [partF, hr7, hr3]
    subst hr7
    clear HW
    have HW := HW1
    clear HW1
    go_enter Tryz.func79, Tryz.ntmps79
    have c1 := pref_rc R [45] 6 7 (by omega) ho hq h0 T0 (fun e => hn (by rw [HW.out]; exact e))
    simp only [show ((6 : Nat) : Int) = 6 from rfl] at c1
    simp only [show ((7 : Nat) : Int) = 7 from rfl] at c1
    go_wp2_with fail
    refine c1.mono ?_
    rintro e w1 hP
    clear c1
    rw [← HW.out] at hP
    clear HW
    cases W using Rs.on with
    | out => exact hP.elim
    | bad er a =>
      obtain ⟨rfl, k1⟩ := hP
      have KB := K0.trans k1
      go_wp2
      exact ⟨rfl, And.intro rfl KB⟩
    | ok y t1 =>
      obtain ⟨ao1, cap1, rfl, S1, h1, k1⟩ := hP
      have S1a := S1.low (show w.heap.size + 1 ≤ (w.alloc exZ).heap.size by simp)
      clear S1
      have Z1 := k1.blk Z0 (by have := K0.size; omega)
      have K1 := K0.trans k1
      have T1 := T0.keep k1
      clear K0 T0 Z0
      have KE := K1.set5 (b := w.heap.size) (by omega) (.int .i64 y.k) (.int .i64 y.n) (stv y.nm) (.slice ao1 y.kids.len cap1) (.int .i64 y.a)
      have RE := h1.set5 (b := w.heap.size) (by omega) (.int .i64 y.k) (.int .i64 y.n) (stv y.nm) (.slice ao1 y.kids.len cap1) (.int .i64 y.a)
      have ZE := set5k (.int .i64 y.k) (.int .i64 y.n) (stv y.nm) (.slice ao1 y.kids.len cap1) (.int .i64 y.a) Z1
      have SE : Slc _ (Nw w.heap.size) _ _ _ := (S1a.set5 (b := w.heap.size) (by omega) (.int .i64 y.k) (.int .i64 y.n) (stv y.nm) (.slice ao1 y.kids.len cap1) (.int .i64 y.a)).low (by omega)
      obtain ⟨z0, z1, z2, z3, z4, zf⟩ := box5 Z1
      obtain ⟨u0, u1, u2, u3, u4, -⟩ := box5 ZE
      clear ZE S1a K1 Z1 h1 T1 k1
      rw [exV_out]
      go_wp2
      exact bodyPost_ret (v := exV y ao1 cap1) (by simp [results, Tryz.results79, go_sem, u0, u1, u2, u3, u4, exV]) rfl ⟨ao1, cap1, rfl, SE, RE, KE⟩
  by_cases hr8 : row = 8
  · have HW1 : Hid (W = atomR (partF n) n o q ts) := by show W = _; rw [HW.out]; simp [partF, hr8, hr3, hr7]
    subst hr8
    clear HW
    have HW := HW1
    clear HW1
    go_enter Tryz.func79, Tryz.ntmps79
    have c1 := atom_rc R n hm ho hq h0 T0 (fun e => hn (by rw [HW.out]; exact e))
    go_wp2_with fail
    refine c1.mono ?_
    rintro e w1 hP
    clear c1
    rw [← HW.out] at hP
    clear HW
    cases W using Rs.on with
    | out => exact hP.elim
    | bad er a =>
      obtain ⟨rfl, k1⟩ := hP
      have KB := K0.trans k1
      go_wp2
      exact ⟨rfl, And.intro rfl KB⟩
    | ok y t1 =>
      obtain ⟨ao1, cap1, rfl, S1, h1, k1⟩ := hP
      have S1a := S1.low (show w.heap.size + 1 ≤ (w.alloc exZ).heap.size by simp)
      clear S1
      have Z1 := k1.blk Z0 (by have := K0.size; omega)
      have K1 := K0.trans k1
      have T1 := T0.keep k1
      clear K0 T0 Z0
      have KE := K1.set5 (b := w.heap.size) (by omega) (.int .i64 y.k) (.int .i64 y.n) (stv y.nm) (.slice ao1 y.kids.len cap1) (.int .i64 y.a)
      have RE := h1.set5 (b := w.heap.size) (by omega) (.int .i64 y.k) (.int .i64 y.n) (stv y.nm) (.slice ao1 y.kids.len cap1) (.int .i64 y.a)
      have ZE := set5k (.int .i64 y.k) (.int .i64 y.n) (stv y.nm) (.slice ao1 y.kids.len cap1) (.int .i64 y.a) Z1
      have SE : Slc _ (Nw w.heap.size) _ _ _ := (S1a.set5 (b := w.heap.size) (by omega) (.int .i64 y.k) (.int .i64 y.n) (stv y.nm) (.slice ao1 y.kids.len cap1) (.int .i64 y.a)).low (by omega)
      obtain ⟨z0, z1, z2, z3, z4, zf⟩ := box5 Z1
      obtain ⟨u0, u1, u2, u3, u4, -⟩ := box5 ZE
      clear ZE S1a K1 Z1 h1 T1 k1
      rw [exV_out]
      go_wp2
      exact bodyPost_ret (v := exV y ao1 cap1) (by simp [results, Tryz.results79, go_sem, u0, u1, u2, u3, u4, exV]) rfl ⟨ao1, cap1, rfl, SE, RE, KE⟩
  have HW1 : Hid (W = ((partF n (row + 1) o q ts).bind fun l t => chainL (partF n) n row o q l t)) := by show W = _; rw [HW.out]; simp [partF, hr3, hr7, hr8]
  have b3 : ((row : Int) == 3) = false := by rw [beq_eq_false_iff_ne]; omega
  have b7 : ((row : Int) == 7) = false := by rw [beq_eq_false_iff_ne]; omega
  have b8 : ((row : Int) == 8) = false := by rw [beq_eq_false_iff_ne]; omega
  have hrow7 : row ≤ 7 := by omega
  clear HW hr3 hr7 hr8 hrow
  have HW := HW1
  clear HW1
  go_enter Tryz.func79, Tryz.ntmps79
  have c1 := chain_rc R n row hrow7 ho hq h0 T0 (fun e => hn (by rw [HW.out]; exact e))
  go_wp2_with fail
  refine c1.mono ?_
  rintro e w1 hP
  clear c1
  rw [← HW.out] at hP
  clear HW
  cases W using Rs.on with
  | out => exact hP.elim
  | bad er a =>
    obtain ⟨rfl, k1⟩ := hP
    have KB := K0.trans k1
    go_wp2
    exact ⟨rfl, And.intro rfl KB⟩
  | ok y t1 =>
    obtain ⟨ao1, cap1, rfl, S1, h1, k1⟩ := hP
    have S1a := S1.low (show w.heap.size + 1 ≤ (w.alloc exZ).heap.size by simp)
    clear S1
    have Z1 := k1.blk Z0 (by have := K0.size; omega)
    have K1 := K0.trans k1
    have T1 := T0.keep k1
    clear K0 T0 Z0
    have KE := K1.set5 (b := w.heap.size) (by omega) (.int .i64 y.k) (.int .i64 y.n) (stv y.nm) (.slice ao1 y.kids.len cap1) (.int .i64 y.a)
    have RE := h1.set5 (b := w.heap.size) (by omega) (.int .i64 y.k) (.int .i64 y.n) (stv y.nm) (.slice ao1 y.kids.len cap1) (.int .i64 y.a)
    have ZE := set5k (.int .i64 y.k) (.int .i64 y.n) (stv y.nm) (.slice ao1 y.kids.len cap1) (.int .i64 y.a) Z1
    have SE : Slc _ (Nw w.heap.size) _ _ _ := (S1a.set5 (b := w.heap.size) (by omega) (.int .i64 y.k) (.int .i64 y.n) (stv y.nm) (.slice ao1 y.kids.len cap1) (.int .i64 y.a)).low (by omega)
    obtain ⟨z0, z1, z2, z3, z4, zf⟩ := box5 Z1
    obtain ⟨u0, u1, u2, u3, u4, -⟩ := box5 ZE
    clear ZE S1a K1 Z1 h1 T1 k1
    rw [exV_out]
    go_wp2
    exact bodyPost_ret (v := exV y ao1 cap1) (by simp [results, Tryz.results79, go_sem, u0, u1, u2, u3, u4, exV]) rfl ⟨ao1, cap1, rfl, SE, RE, KE⟩
theorem part_okc : ∀ n, n ≤ 1000000 → RecOkc (partF n)
  | 0, _ => fun w rb row o q ts _ _ _ _ _ hn => absurd rfl hn
  | n + 1, h => part_stepc (part_okc n (by omega)) (by omega)
end Go.Proofs.YtafnlhnenmpfoaaGreatDoor
