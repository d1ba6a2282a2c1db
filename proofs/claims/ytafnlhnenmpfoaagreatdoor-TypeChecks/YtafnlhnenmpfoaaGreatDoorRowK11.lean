/- From the walk of a law of package lex to its row: the tables and errors as the program lays them. -/
import Derived.Test.YtafnlhnenmpfoaaGreatDoorLenA
import Derived.Test.YtafnlhnenmpfoaaGreatDoorRows
import Derived.SizedLaws
import Derived.Lib.LaidTab
import Derived.Stop.LaidErr
import Derived.ShutString
import Derived.Deep.DeepHandedRow
namespace Go.Proofs.YtafnlhnenmpfoaaGreatDoor
open Go.ChangeShapes Go.WideShapes Go.ChangeAt Go.RowKit
set_option linter.unusedVariables false
set_option linter.unusedSimpArgs false

abbrev SpA (w : World) (f : Fs) (b cap : Nat) : Prop := Sp w (fun _ => True) f b cap
theorem SpA.below {w w' : World} {f : Fs} {b cap : Nat} (h : SpA w f b cap) (bb : Below w.heap.size w w') : SpA w' f b cap := h.mono (fun i _ hl => bb.block i hl) bb.size (fun _ h _ => h)
theorem Sp.last {w : World} {P : Nat → Prop} {f : Fs} {b cap : Nat} (h : Sp w P f b cap) : f.len + 1 ≤ cap ∧ cap ≤ maxLen ∧ w.cell? ⟨b, f.len * 5, none⟩ = some (.int .i64 (-7)) := by
  obtain ⟨zs, hp, hlt, h1, h2, hc, h7, h3⟩ := h
  exact ⟨h1, h2, h7⟩
theorem Sp.lt {w : World} {P : Nat → Prop} {f : Fs} {b cap : Nat} (h : Sp w P f b cap) : b < w.heap.size := by
  obtain ⟨zs, hp, hlt, _⟩ := h
  exact hlt
theorem LFc.split {w : World} {P : Nat → Prop} : ∀ {x y : Fs} {zs : List Value}, LFc w P (x.app y) zs → ∃ zx zy, zs = zx ++ zy ∧ LFc w P x zx ∧ LFc w P y zy
  | ⟨none⟩, y, zs, h => ⟨[], zs, rfl, rfl, h⟩
  | ⟨some ⟨k, n, nm, a, ks, r⟩⟩, y, zs, h => by
    obtain ⟨b, cap, us, ys, rfl, h1, h2⟩ := h
    obtain ⟨zx, zy, rfl, h3, h4⟩ := LFc.split (x := r) h2
    exact ⟨_, zy, rfl, ⟨b, cap, us, zx, rfl, h1, h3⟩, h4⟩
theorem Sp.kid {w : World} {P : Nat → Prop} {x r : Fs} {k n : Int} {nm : List UInt8} {a : Int} {ks : Fs} {b cap : Nat} (h : Sp w P (x.app (.cons k n nm a ks r)) b cap) :
    ∃ bk ck, w.cell? ⟨b, x.len * 5, none⟩ = some (.int .i64 k) ∧ w.cell? ⟨b, x.len * 5 + 1, none⟩ = some (.int .i64 n) ∧ w.cell? ⟨b, x.len * 5 + 2, none⟩ = some (stv nm) ∧ w.cell? ⟨b, x.len * 5 + 3, none⟩ = some (.slice (some ⟨bk, 0, none⟩) ks.len ck) ∧ w.cell? ⟨b, x.len * 5 + 4, none⟩ = some (.int .i64 a) ∧ Sp w P ks bk ck := by
  obtain ⟨zs, hp, hlt, h1, h2, hc, h7, h3⟩ := h
  obtain ⟨zx, zy, rfl, h4, h5⟩ := LFc.split h3
  have hl := h4.len
  obtain ⟨bk, ck, us, ys, rfl, h6, -⟩ := h5
  have hc' : ∀ j u, (.int .i64 k :: .int .i64 n :: stv nm :: .slice (some ⟨bk, 0, none⟩) ks.len ck :: .int .i64 a :: ys : List Value)[j]? = some u → w.cell? ⟨b, x.len * 5 + j, none⟩ = some u := fun j u hu => by
    have := hc (x.len * 5 + j) u (by rw [List.getElem?_append_right (by omega), hl, Nat.add_sub_cancel_left]; exact hu)
    rw [Nat.zero_add] at this
    exact this
  exact ⟨bk, ck, hc' 0 _ rfl, hc' 1 _ rfl, hc' 2 _ rfl, hc' 3 _ rfl, hc' 4 _ rfl, us, h6⟩
def KeptOk (N : Nat) : Prop := ∀ (e : Ex) (b0 cap : Nat) (ao2 : Option Addr) (cap2 : Nat) (w : World), e.kids.size < N → e.kids.len ≤ 1000000000 → e.kids.short → SpA w e.kids b0 cap → SlA w e.kids ao2 →
  Calls Tryz.prog 18 #[exV e (some ⟨b0, 0, none⟩) cap, exV e ao2 cap2] w fun x w' => x = .returned (.bool true) ∧ Below w.heap.size w w'
set_option maxRecDepth 100000 in
set_option maxHeartbeats 1000000 in
theorem kept_step {N : Nat} (IH : KeptOk N) : KeptOk (N + 1) := by
  intro e b0 cap ao2 cap2 w hN hlen hsh S S2
  have B0 : Below w.heap.size w ((w.alloc (.cells #[.int .i64 e.k, .int .i64 e.n, stv e.nm, .slice (some ⟨b0, 0, none⟩) e.kids.len cap, .int .i64 e.a] 25)).alloc (.cells #[.int .i64 e.k, .int .i64 e.n, stv e.nm, .slice ao2 e.kids.len cap2, .int .i64 e.a] 25)) := ((Below.refl _ w).alloc (Nat.le_refl _) _).alloc (by simp) _
  have E0 : ((w.alloc (.cells #[.int .i64 e.k, .int .i64 e.n, stv e.nm, .slice (some ⟨b0, 0, none⟩) e.kids.len cap, .int .i64 e.a] 25)).alloc (.cells #[.int .i64 e.k, .int .i64 e.n, stv e.nm, .slice ao2 e.kids.len cap2, .int .i64 e.a] 25)).heap[w.heap.size]? = some (.cells #[.int .i64 e.k, .int .i64 e.n, stv e.nm, .slice (some ⟨b0, 0, none⟩) e.kids.len cap, .int .i64 e.a] 25) := (Below.heap_alloc _ _ _ (by simp)).trans (heap_alloc_new w _)
  have Y0 : ((w.alloc (.cells #[.int .i64 e.k, .int .i64 e.n, stv e.nm, .slice (some ⟨b0, 0, none⟩) e.kids.len cap, .int .i64 e.a] 25)).alloc (.cells #[.int .i64 e.k, .int .i64 e.n, stv e.nm, .slice ao2 e.kids.len cap2, .int .i64 e.a] 25)).heap[w.heap.size + 1]? = some (.cells #[.int .i64 e.k, .int .i64 e.n, stv e.nm, .slice ao2 e.kids.len cap2, .int .i64 e.a] 25) := by
    have := heap_alloc_new (w.alloc (.cells #[.int .i64 e.k, .int .i64 e.n, stv e.nm, .slice (some ⟨b0, 0, none⟩) e.kids.len cap, .int .i64 e.a] 25)) (.cells #[.int .i64 e.k, .int .i64 e.n, stv e.nm, .slice ao2 e.kids.len cap2, .int .i64 e.a] 25)
    simpa using this
  have S0 := SpA.below S B0
  have T0 := SlA.below S2 B0
  rw [exV_out, exV_out]
  go_enter Tryz.func18, Tryz.ntmps18
  go_upto_region 1 with fail
  generalize (w.alloc (.cells #[.int .i64 e.k, .int .i64 e.n, stv e.nm, .slice (some ⟨b0, 0, none⟩) e.kids.len cap, .int .i64 e.a] 25)).alloc (.cells #[.int .i64 e.k, .int .i64 e.n, stv e.nm, .slice ao2 e.kids.len cap2, .int .i64 e.a] 25) = w0 at *
  obtain ⟨bx, hbx⟩ : ∃ bx, bx = w.heap.size := ⟨_, rfl⟩
  rw [← hbx] at E0 Y0 B0 ⊢
  have HB : Hid (bx = w.heap.size) := hbx
  clear hbx S S2
  obtain ⟨p0, p1, p2, p3, p4, pf⟩ := box5 E0
  obtain ⟨q0, q1, q2, q3, q4, qf⟩ := box5 Y0
  obtain ⟨hc1, hc2, h7⟩ := S0.last
  have hc1I : (e.kids.len : Int) + 1 ≤ (cap : Int) := by omega
  have hcm : cap ≤ 9223372036854775807 := hc2
  have hw1 : IntKind.i64.wrap ((e.kids.len : Int) + 1) = (e.kids.len : Int) + 1 := by rw [IntKind.wrap_i64]; omega
  have hlt1 : (e.kids.len : Int) < (e.kids.len : Int) + 1 := by omega
  go_upto_region 3 with fail
  go_quiet (fail)
  have bq : Below w0.heap.size w0 (w0.drewN nq) := bdr (Below.refl _ _) nq
  have E0 := (bq.block _ (lt_of_block E0)).trans E0
  have Y0 := (bq.block _ (lt_of_block Y0)).trans Y0
  have S0 := S0.below bq
  have T0 := SlA.below T0 bq
  have B0 := B0.trans (bq.mono (by have := HB.out; have := B0.size; omega))
  generalize w0.drewN nq = w0 at *
  clear hc1 hc2 h7 hc1I hcm hw1 hlt1 bq p0 p1 p2 p3 p4 pf q0 q1 q2 q3 q4 qf
  go_wp2_with fail
  go_loopw [5] (fun v wr => ∃ (done r : Fs), Hid (e.kids = done.app r) ∧ v = .int .i64 (done.len : Nat) ∧ wr.heap[bx]? = some (.cells #[.int .i64 e.k, .int .i64 e.n, stv e.nm, .slice (some ⟨b0, 0, none⟩) e.kids.len cap, .int .i64 e.a] 25) ∧ wr.heap[bx + 1]? = some (.cells #[.int .i64 e.k, .int .i64 e.n, stv e.nm, .slice ao2 e.kids.len cap2, .int .i64 e.a] 25) ∧ SpA wr e.kids b0 cap ∧ SlA wr e.kids ao2 ∧ Below bx w wr) (fun v _ => e.kids.len - (intOf v).toNat)
  case atStart => exact ⟨.nil, e.kids, rfl, by show _ = Value.int .i64 ((0 : Nat) : Int); rfl, E0, Y0, S0, T0, B0⟩
  case round =>
    clear E0 Y0 S0 T0 B0
    obtain ⟨done, r, hk, rfl, E1, Y1, S1, T1, B1⟩ := hrel
    have hlk : e.kids.len = done.len + r.len := by rw [hk.out, Fs.len_app]
    obtain ⟨p0, p1, p2, p3, p4, pf⟩ := box5 E1
    obtain ⟨q0, q1, q2, q3, q4, qf⟩ := box5 Y1
    cases r using Fs.on with
    | nil =>
      have hl0 : ¬ (done.len : Int) < (e.kids.len : Int) := by simp only [Fs.len] at hlk; omega
      clear hlk
      go_wp2
      go_ret
      exact ⟨rfl, by rw [← HB.out]; exact B1⟩
    | cons kk kn km ka kks kr =>
      have hl0 : (done.len : Int) < (e.kids.len : Int) := by simp only [Fs.len] at hlk; omega
      have hl1 : done.len < e.kids.len := by omega
      have hsz : e.kids.size = done.size + (kks.size + kr.size + 1) := by rw [hk.out, Fs.size_app]; rfl
      have hsk : (Fs.cons kk kn km ka kks kr).short := Fs.app_short (by rw [← hk.out]; exact hsh)
      obtain ⟨bk, ck, x0, x1, x2, x3, x4, SK⟩ := Sp.kid (x := done) (by rw [← hk.out]; exact S1)
      obtain ⟨b', off', ak', ck', hao', lb2, -, y0, y1, y2, y3, y4, TK⟩ := Sl.kidQ (by rw [← hk.out]; exact T1)
      subst hao'
      have lb1 : b0 < wr.heap.size := S1.lt
      have hc := IH ⟨kk, kn, km, ka, kks⟩ bk ck ak' ck' wr.drew (by show kks.size < N; omega) hsk.2.1 hsk.2.2.1 (SpA.below SK (Below.refl _ wr).drew) (SlA.below TK (Below.refl _ wr).drew)
      rw [exV_out, exV_out] at hc
      simp only at hc
      clear hlk hsz hsk SK TK
      go_wp2
      have k0 : wr.cell? ⟨bx, 3, none⟩ = some (.slice (some ⟨b0, 0, none⟩) e.kids.len cap) ∧ wr.cell? ⟨bx + 1, 3, none⟩ = some (.slice (some ⟨b', off', none⟩) e.kids.len cap2) ∧ wr.cell? ⟨b0, done.len * 5, none⟩ = some (.int .i64 kk) ∧ wr.cell? ⟨b0, done.len * 5 + 1, none⟩ = some (.int .i64 kn) ∧ wr.cell? ⟨b0, done.len * 5 + 2, none⟩ = some (stv km) ∧ wr.cell? ⟨b0, done.len * 5 + 3, none⟩ = some (.slice (some ⟨bk, 0, none⟩) kks.len ck) ∧ wr.cell? ⟨b0, done.len * 5 + 4, none⟩ = some (.int .i64 ka) ∧ wr.cell? ⟨b', off' + done.len * 5, none⟩ = some (.int .i64 kk) ∧ wr.cell? ⟨b', off' + done.len * 5 + 1, none⟩ = some (.int .i64 kn) ∧ wr.cell? ⟨b', off' + done.len * 5 + 2, none⟩ = some (stv km) ∧ wr.cell? ⟨b', off' + done.len * 5 + 3, none⟩ = some (.slice ak' kks.len ck') ∧ wr.cell? ⟨b', off' + done.len * 5 + 4, none⟩ = some (.int .i64 ka) := ⟨p3, q3, x0, x1, x2, x3, x4, y0, y1, y2, y3, y4⟩
      have k1 : wr.drew.cell? ⟨bx, 3, none⟩ = some (.slice (some ⟨b0, 0, none⟩) e.kids.len cap) ∧ wr.drew.cell? ⟨bx + 1, 3, none⟩ = some (.slice (some ⟨b', off', none⟩) e.kids.len cap2) ∧ wr.drew.cell? ⟨b0, done.len * 5, none⟩ = some (.int .i64 kk) ∧ wr.drew.cell? ⟨b0, done.len * 5 + 1, none⟩ = some (.int .i64 kn) ∧ wr.drew.cell? ⟨b0, done.len * 5 + 2, none⟩ = some (stv km) ∧ wr.drew.cell? ⟨b0, done.len * 5 + 3, none⟩ = some (.slice (some ⟨bk, 0, none⟩) kks.len ck) ∧ wr.drew.cell? ⟨b0, done.len * 5 + 4, none⟩ = some (.int .i64 ka) ∧ wr.drew.cell? ⟨b', off' + done.len * 5, none⟩ = some (.int .i64 kk) ∧ wr.drew.cell? ⟨b', off' + done.len * 5 + 1, none⟩ = some (.int .i64 kn) ∧ wr.drew.cell? ⟨b', off' + done.len * 5 + 2, none⟩ = some (stv km) ∧ wr.drew.cell? ⟨b', off' + done.len * 5 + 3, none⟩ = some (.slice ak' kks.len ck') ∧ wr.drew.cell? ⟨b', off' + done.len * 5 + 4, none⟩ = some (.int .i64 ka) := k0
      have lb : bx + 1 < wr.drew.heap.size := lt_of_block Y1
      go_region_held (fun wx => wx.cell? ⟨bx, 3, none⟩ = some (.slice (some ⟨b0, 0, none⟩) e.kids.len cap) ∧ wx.cell? ⟨bx + 1, 3, none⟩ = some (.slice (some ⟨b', off', none⟩) e.kids.len cap2) ∧ wx.cell? ⟨b0, done.len * 5, none⟩ = some (.int .i64 kk) ∧ wx.cell? ⟨b0, done.len * 5 + 1, none⟩ = some (.int .i64 kn) ∧ wx.cell? ⟨b0, done.len * 5 + 2, none⟩ = some (stv km) ∧ wx.cell? ⟨b0, done.len * 5 + 3, none⟩ = some (.slice (some ⟨bk, 0, none⟩) kks.len ck) ∧ wx.cell? ⟨b0, done.len * 5 + 4, none⟩ = some (.int .i64 ka) ∧ wx.cell? ⟨b', off' + done.len * 5, none⟩ = some (.int .i64 kk) ∧ wx.cell? ⟨b', off' + done.len * 5 + 1, none⟩ = some (.int .i64 kn) ∧ wx.cell? ⟨b', off' + done.len * 5 + 2, none⟩ = some (stv km) ∧ wx.cell? ⟨b', off' + done.len * 5 + 3, none⟩ = some (.slice ak' kks.len ck') ∧ wx.cell? ⟨b', off' + done.len * 5 + 4, none⟩ = some (.int .i64 ka)) (first | (with_reducible exact k2) | (with_reducible exact k1) | (with_reducible exact k0)) ((go_at_call 18; refine hc.mono ?_; rintro x w2 ⟨rfl, b2⟩; have k2 : w2.cell? ⟨bx, 3, none⟩ = some (.slice (some ⟨b0, 0, none⟩) e.kids.len cap) ∧ w2.cell? ⟨bx + 1, 3, none⟩ = some (.slice (some ⟨b', off', none⟩) e.kids.len cap2) ∧ w2.cell? ⟨b0, done.len * 5, none⟩ = some (.int .i64 kk) ∧ w2.cell? ⟨b0, done.len * 5 + 1, none⟩ = some (.int .i64 kn) ∧ w2.cell? ⟨b0, done.len * 5 + 2, none⟩ = some (stv km) ∧ w2.cell? ⟨b0, done.len * 5 + 3, none⟩ = some (.slice (some ⟨bk, 0, none⟩) kks.len ck) ∧ w2.cell? ⟨b0, done.len * 5 + 4, none⟩ = some (.int .i64 ka) ∧ w2.cell? ⟨b', off' + done.len * 5, none⟩ = some (.int .i64 kk) ∧ w2.cell? ⟨b', off' + done.len * 5 + 1, none⟩ = some (.int .i64 kn) ∧ w2.cell? ⟨b', off' + done.len * 5 + 2, none⟩ = some (stv km) ∧ w2.cell? ⟨b', off' + done.len * 5 + 3, none⟩ = some (.slice ak' kks.len ck') ∧ w2.cell? ⟨b', off' + done.len * 5 + 4, none⟩ = some (.int .i64 ka) := ⟨(b2.cell (p := ⟨bx, 3, none⟩) (Nat.lt_of_succ_lt lb)).trans p3, (b2.cell (p := ⟨bx + 1, 3, none⟩) lb).trans q3, (b2.cell (p := ⟨b0, done.len * 5, none⟩) lb1).trans x0, (b2.cell (p := ⟨b0, done.len * 5 + 1, none⟩) lb1).trans x1, (b2.cell (p := ⟨b0, done.len * 5 + 2, none⟩) lb1).trans x2, (b2.cell (p := ⟨b0, done.len * 5 + 3, none⟩) lb1).trans x3, (b2.cell (p := ⟨b0, done.len * 5 + 4, none⟩) lb1).trans x4, (b2.cell (p := ⟨b', off' + done.len * 5, none⟩) lb2).trans y0, (b2.cell (p := ⟨b', off' + done.len * 5 + 1, none⟩) lb2).trans y1, (b2.cell (p := ⟨b', off' + done.len * 5 + 2, none⟩) lb2).trans y2, (b2.cell (p := ⟨b', off' + done.len * 5 + 3, none⟩) lb2).trans y3, (b2.cell (p := ⟨b', off' + done.len * 5 + 4, none⟩) lb2).trans y4⟩))
      have B2 : Below bx w w2 := (B1.drew).trans (b2.mono (by have := HB.out; have := B1.size; show bx ≤ wr.heap.size; omega))
      have E2 := (b2.block bx (Nat.lt_of_succ_lt lb)).trans E1
      have Y2 := (b2.block (bx + 1) lb).trans Y1
      have S2 := SpA.below (SpA.below S1 (Below.refl _ wr).drew) b2
      have T2 := SlA.below (SlA.below T1 (Below.refl _ wr).drew) b2
      have hk2 : Hid (e.kids = (done.snoc ⟨kk, kn, km, ka, kks⟩).app kr) := by show e.kids = _; rw [hk.out]; unfold Fs.snoc; rw [Fs.app_assoc]; rfl
      have hl2 : (done.len : Int) + 1 = ((done.snoc ⟨kk, kn, km, ka, kks⟩).len : Nat) := by rw [Fs.len_snoc]; rfl
      have hl3 : e.kids.len - (done.len + 1) < e.kids.len - done.len := by omega
      clear k0 k1 k2 p0 p1 p2 p3 p4 pf q0 q1 q2 q3 q4 qf x0 x1 x2 x3 x4 y0 y1 y2 y3 y4 hc b2 E1 Y1 S1 T1 B1 hk
      go_wp2
      go_roundw
      case rel => exact ⟨_, kr, hk2, by rw [← hl2], E2, Y2, S2, T2, B2⟩
      case measure => simp [intOf]; omega
theorem kept_ok : ∀ N, KeptOk N -- 18
  | 0 => fun e b0 cap ao2 cap2 w h => absurd h (Nat.not_lt_zero _)
  | N + 1 => kept_step (kept_ok N)
end Go.Proofs.YtafnlhnenmpfoaaGreatDoor
namespace Go.Proofs.YtafnlhnenmpfoaaGreatDoor
open Go.ChangeShapes Go.WideShapes Go.ChangeAt Go.RowKit
set_option linter.unusedVariables false
set_option linter.unusedSimpArgs false

set_option maxRecDepth 100000 in
set_option maxHeartbeats 4000000 in
theorem typeChecks_walk (e : Ex) (ao : Option Addr) (cap : Nat) (w : World) (hl : e.kids.len ≤ maxLen) (hw : e.kids.wide) (hf : e.kids.size ≤ 100000000 → e.fit) (S : SlA w e.kids ao) (FX : FixT w) :
    Calls Tryz.prog 4 #[exV e ao cap] w fun x w' => x = .returned (.bool true) ∧ Below w.heap.size w w' := by
  have b0 : Below w.heap.size w (w.alloc (.cells #[.int .i64 e.k, .int .i64 e.n, stv e.nm, .slice ao e.kids.len cap, .int .i64 e.a] 25)) := (Below.refl _ w).alloc (Nat.le_refl _) _
  have X0 : (w.alloc (.cells #[.int .i64 e.k, .int .i64 e.n, stv e.nm, .slice ao e.kids.len cap, .int .i64 e.a] 25)).heap[w.heap.size]? = some (.cells #[.int .i64 e.k, .int .i64 e.n, stv e.nm, .slice ao e.kids.len cap, .int .i64 e.a] 25) := heap_alloc_new w _
  have S0 := SlA.below S b0
  have FX0 := FX.below b0
  rw [exV_out]
  go_enter Tryz.func4, Tryz.ntmps4
  go_upto_region 1 with fail
  generalize w.alloc (.cells #[.int .i64 e.k, .int .i64 e.n, stv e.nm, .slice ao e.kids.len cap, .int .i64 e.a] 25) = w0 at *
  have HB : Hid (Below w.heap.size w w0) := b0
  have hbx1 : w.heap.size ≤ w0.heap.size := b0.size
  generalize hbx : w.heap.size = bx at X0 b0
  clear hbx S FX b0
  have hx0 := lt_of_block X0
  have B0 := Below.refl w0.heap.size w0
  obtain ⟨p0, p1, p2, p3, p4, pf⟩ := box5 ((B0.block _ hx0).trans X0)
  have c := heavy_r e ao cap w0 hl hw S0
  rw [exV_out] at c
  go_wp2_with fail
  refine c.mono ?_
  rintro x w1 ⟨rfl, bw⟩
  clear c p0 p1 p2 p3 p4 pf
  have B1 := B0.trans (bw.mono B0.size)
  clear bw B0
  cases h1 : heavyB e with
  | true =>
    go_wp2
    go_ret
    exact ⟨rfl, HB.out.trans (B1.mono hbx1)⟩
  | false =>
  have z1 := light h1
  have f1 := hf (by omega)
  clear h1 hf
  obtain ⟨p0, p1, p2, p3, p4, pf⟩ := box5 ((B1.block _ hx0).trans X0)
  have c := awaket_r w1 (FX0.below B1)
  go_wp2_with fail
  refine c.mono ?_
  rintro x w2 ⟨rfl, bw⟩
  clear c p0 p1 p2 p3 p4 pf
  have B2 := B1.trans (bw.mono B1.size)
  clear bw B1
  obtain ⟨p0, p1, p2, p3, p4, pf⟩ := box5 ((B2.block _ hx0).trans X0)
  have c := rcheck_q e ao cap w2 f1 (SlA.below S0 B2)
  rw [exV_out] at c
  go_wp2_with fail
  refine c.mono ?_
  rintro x w3 ⟨rfl, bw⟩
  clear c p0 p1 p2 p3 p4 pf
  have B3 := B2.trans (bw.mono B2.size)
  clear bw B2
  have hsz : ∀ t, writA e = some t → e.kids.size ≤ 2000 := fun t ht => (writA_ok f1 ht).2.1
  obtain ⟨T, hT⟩ : ∃ T, T = typA e := ⟨_, rfl⟩
  have HT : Hid (typA e = T) := hT.symm
  rw [← hT]
  clear hT
  simp only [tupT]
  obtain ⟨p0, p1, p2, p3, p4, pf⟩ := box5 ((B3.block _ hx0).trans X0)
  have bw : Below w3.heap.size w3 (w3.alloc (.cells #[.int .i64 e.k, .int .i64 e.n, stv e.nm, .slice ao e.kids.len cap, .int .i64 e.a] 25)) := (Below.refl _ w3).alloc (Nat.le_refl _) _
  have Y4 : (w3.alloc (.cells #[.int .i64 e.k, .int .i64 e.n, stv e.nm, .slice ao e.kids.len cap, .int .i64 e.a] 25)).heap[w3.heap.size]? = some (.cells #[.int .i64 e.k, .int .i64 e.n, stv e.nm, .slice ao e.kids.len cap, .int .i64 e.a] 25) := heap_alloc_new w3 _
  have hbo : w0.heap.size ≤ w3.heap.size := B3.size
  go_upto_region 6 with fail
  generalize w3.alloc (.cells #[.int .i64 e.k, .int .i64 e.n, stv e.nm, .slice ao e.kids.len cap, .int .i64 e.a] 25) = w4 at *
  generalize w3.heap.size = bo at *
  have B4 := B3.trans (bw.mono (by omega))
  clear bw B3 p0 p1 p2 p3 p4 pf
  obtain ⟨p0, p1, p2, p3, p4, pf⟩ := box5 ((B4.block _ hx0).trans X0)
  obtain ⟨q0, q1, q2, q3, q4, qf⟩ := box5 Y4
  have c := right_q e ao cap w4 f1 (SlA.below S0 B4)
  rw [exV_out] at c
  go_wp2_with fail
  refine c.mono ?_
  rintro x w5 ⟨rfl, bw⟩
  clear c p0 p1 p2 p3 p4 pf q0 q1 q2 q3 q4 qf
  have B5 := B4.trans (bw.mono B4.size)
  have Y5 := (bw.block _ (lt_of_block Y4)).trans Y4
  clear bw B4 Y4
  cases hW : writA e with
  | none =>
    simp only [Option.isSome_none]
    clear hsz hW
    obtain ⟨p0, p1, p2, p3, p4, pf⟩ := box5 ((B5.block _ hx0).trans X0)
    obtain ⟨q0, q1, q2, q3, q4, qf⟩ := box5 Y5
    have c := tcheck_r e ao cap w5 f1 (FX0.below B5) (SlA.below S0 B5)
    rw [exV_out, HT.out] at c
    go_wp2_with fail
    refine c.mono ?_
    rintro x w6 ⟨rfl, bw⟩
    clear c p0 p1 p2 p3 p4 pf q0 q1 q2 q3 q4 qf
    have B6 := B5.trans (bw.mono B5.size)
    have Y6 := (bw.block _ (lt_of_block Y5)).trans Y5
    clear bw B5 Y5
    simp only [tupT]
    obtain ⟨p0, p1, p2, p3, p4, pf⟩ := box5 ((B6.block _ hx0).trans X0)
    obtain ⟨q0, q1, q2, q3, q4, qf⟩ := box5 Y6
    have c := tcheck_r e ao cap w6 f1 (FX0.below B6) (SlA.below S0 B6)
    rw [exV_out, HT.out] at c
    go_wp2_with fail
    refine c.mono ?_
    rintro x w7 ⟨rfl, bw⟩
    clear c p0 p1 p2 p3 p4 pf q0 q1 q2 q3 q4 qf
    have B7 := B6.trans (bw.mono B6.size)
    have Y7 := (bw.block _ (lt_of_block Y6)).trans Y6
    clear bw B6 Y6
    simp only [tupT]
    have hz1 : (T.1 == T.1) = true := by simp
    have hz2 : ((T.2.1 : Int) == (T.2.1 : Int)) = true := by simp
    have hz3 : (T.2.2 == T.2.2) = true := by simp
    have HZ : Hid (Below w0.heap.size w0 w7) := B7
    clear B7 Y7 S0 FX0 X0 f1
    generalize T.1 = t1 at *
    generalize T.2.1 = t2 at *
    generalize T.2.2 = t3 at *
    go_wp2
    go_ret
    exact ⟨by first | rfl | simp, HB.out.trans (HZ.out.mono hbx1)⟩
  | some t =>
    have hs9 := hsz t hW
    simp only [Option.isSome_some]
    clear hsz hW
    obtain ⟨p0, p1, p2, p3, p4, pf⟩ := box5 ((B5.block _ hx0).trans X0)
    obtain ⟨q0, q1, q2, q3, q4, qf⟩ := box5 Y5
    have c := lent_ok (e.kids.size + 1) e ao cap 4000 w5 (by omega) (by omega) (by omega) f1.len f1.sh (SlA.below S0 B5)
    rw [exV_out] at c
    go_wp2_with fail
    refine c.mono ?_
    rintro x w6 ⟨bl, cl, rfl, P6', bw⟩
    clear c p0 p1 p2 p3 p4 pf q0 q1 q2 q3 q4 qf
    have hbo5 : bo < w5.heap.size := lt_of_block Y5
    have B6 := B5.trans (bw.mono B5.size)
    have Y6 := (bw.block _ (lt_of_block Y5)).trans Y5
    clear bw B5 Y5
    have Y7 := set5k (.int .i64 e.k) (.int .i64 e.n) (stv e.nm) (.slice (some ⟨bl, 0, none⟩) e.kids.len cl) (.int .i64 e.a) Y6
    have B7 := ((((B6.setCell (p := ⟨bo, 0, none⟩) hbo (.int .i64 e.k)).setCell (p := ⟨bo, 1, none⟩) hbo (.int .i64 e.n)).setCell (p := ⟨bo, 2, none⟩) hbo (stv e.nm)).setCell (p := ⟨bo, 3, none⟩) hbo (.slice (some ⟨bl, 0, none⟩) e.kids.len cl)).setCell (p := ⟨bo, 4, none⟩) hbo (.int .i64 e.a)
    have P7 : SpA (((((w6.setCell ⟨bo, 0, none⟩ (.int .i64 e.k)).setCell ⟨bo, 1, none⟩ (.int .i64 e.n)).setCell ⟨bo, 2, none⟩ (stv e.nm)).setCell ⟨bo, 3, none⟩ (.slice (some ⟨bl, 0, none⟩) e.kids.len cl)).setCell ⟨bo, 4, none⟩ (.int .i64 e.a)) e.kids bl cl := P6'.mono (fun i hp hl => by have hp' : w5.heap.size ≤ i := hp; rw [heap_setCell_other _ _ _ _ (by show i ≠ bo; omega), heap_setCell_other _ _ _ _ (by show i ≠ bo; omega), heap_setCell_other _ _ _ _ (by show i ≠ bo; omega), heap_setCell_other _ _ _ _ (by show i ≠ bo; omega), heap_setCell_other _ _ _ _ (by show i ≠ bo; omega)]) (by simp) (fun _ _ _ => trivial)
    obtain ⟨q0, q1, q2, q3, q4, qf⟩ := box5 Y6
    rw [exV_out]
    clear P6' Y6 B6 hbo5
    go_upto_region 9 with fail
    generalize (((((w6.setCell ⟨bo, 0, none⟩ (.int .i64 e.k)).setCell ⟨bo, 1, none⟩ (.int .i64 e.n)).setCell ⟨bo, 2, none⟩ (stv e.nm)).setCell ⟨bo, 3, none⟩ (.slice (some ⟨bl, 0, none⟩) e.kids.len cl)).setCell ⟨bo, 4, none⟩ (.int .i64 e.a)) = w7 at *
    clear q0 q1 q2 q3 q4 qf
    obtain ⟨p0, p1, p2, p3, p4, pf⟩ := box5 ((B7.block _ hx0).trans X0)
    obtain ⟨q0, q1, q2, q3, q4, qf⟩ := box5 Y7
    have c := tcheck_r e (some ⟨bl, 0, none⟩) cl w7 f1 (FX0.below B7) P7.sl
    rw [exV_out, HT.out] at c
    go_wp2_with fail
    refine c.mono ?_
    rintro x w8 ⟨rfl, bw⟩
    clear c p0 p1 p2 p3 p4 pf q0 q1 q2 q3 q4 qf
    have P8 := SpA.below P7 bw
    clear P7
    have B8 := B7.trans (bw.mono B7.size)
    have Y8 := (bw.block _ (lt_of_block Y7)).trans Y7
    clear bw B7 Y7
    simp only [tupT]
    obtain ⟨p0, p1, p2, p3, p4, pf⟩ := box5 ((B8.block _ hx0).trans X0)
    obtain ⟨q0, q1, q2, q3, q4, qf⟩ := box5 Y8
    have c := tcheck_r e (some ⟨bl, 0, none⟩) cl w8 f1 (FX0.below B8) P8.sl
    rw [exV_out, HT.out] at c
    go_wp2_with fail
    refine c.mono ?_
    rintro x w9 ⟨rfl, bw⟩
    clear c p0 p1 p2 p3 p4 pf q0 q1 q2 q3 q4 qf
    have P9 := SpA.below P8 bw
    clear P8
    have B9 := B8.trans (bw.mono B8.size)
    have Y9 := (bw.block _ (lt_of_block Y8)).trans Y8
    clear bw B8 Y8
    simp only [tupT]
    obtain ⟨p0, p1, p2, p3, p4, pf⟩ := box5 ((B9.block _ hx0).trans X0)
    obtain ⟨q0, q1, q2, q3, q4, qf⟩ := box5 Y9
    have c := kept_ok (e.kids.size + 1) e bl cl ao cap w9 (by omega) f1.len f1.sh P9 (SlA.below S0 B9)
    rw [exV_out, exV_out] at c
    go_wp2_with fail
    refine c.mono ?_
    rintro x w10 ⟨rfl, bw⟩
    clear c p0 p1 p2 p3 p4 pf q0 q1 q2 q3 q4 qf
    have P10 := SpA.below P9 bw
    clear P9
    have B10 := B9.trans (bw.mono B9.size)
    have Y10 := (bw.block _ (lt_of_block Y9)).trans Y9
    clear bw B9 Y9
    have hz1 : (T.1 == T.1) = true := by simp
    have hz2 : ((T.2.1 : Int) == (T.2.1 : Int)) = true := by simp
    have hz3 : (T.2.2 == T.2.2) = true := by simp
    have HZ : Hid (Below w0.heap.size w0 w10) := B10
    clear B10 Y10 P10 S0 FX0 X0 f1
    generalize T.1 = t1 at *
    generalize T.2.1 = t2 at *
    generalize T.2.2 = t3 at *
    go_wp2
    go_ret
    exact ⟨by first | rfl | simp, HB.out.trans (HZ.out.mono hbx1)⟩
end Go.Proofs.YtafnlhnenmpfoaaGreatDoor
namespace Go.Proofs.YtafnlhnenmpfoaaGreatDoor
open Go.ChangeShapes Go.WideShapes Go.ChangeAt Go.RowKit
set_option linter.unusedVariables false

theorem ownK : ownKnob Tryz.prog.godebug = none := by kernel_rfl
theorem laidOut : laidOutB Tryz.prog = true := by kernel_rfl
theorem cellsInt : Tryz.prog.cellsOf 3 = 1 := by kernel_rfl
theorem bd_i64 {a : Int} (h : (Lit.int .i64 a).wf = true) : -9223372036854775808 ≤ a ∧ a ≤ 9223372036854775807 := by
  simpa [Lit.wf, IntKind.min, IntKind.max, IntKind.signed, IntKind.bits] using h
theorem gWd : Tryz.prog.globalNamed "isthmus/lex.words" = some 1 := by kernel_rfl
theorem gWdType : (Tryz.prog.globals[1]?).map (·.type) = some 142 := by kernel_rfl
theorem cellsWd : Tryz.prog.cellsOf 142 = 27 := by kernel_rfl
theorem cellsStr : Tryz.prog.cellsOf 9 = 1 := by kernel_rfl
/-- The words as the row lists them. -/
def wordsD : List (DataW Unit) := (List.range 27).map fun j => .lit (.string (wd j).data.toList)
theorem wordsD_eq : (Rows.laid_isthmus_lex_words : DataW Unit) = .agg wordsD := by rfl
theorem wordsA_list : wordsA.toList = (List.range 27).map fun j => Value.string (wd j) := by rfl
theorem words_of_cells {W : World} {fuel : Nat} {cs : List Value} {p : List MemPlace} (h : DataW.trod (fun _ => ()) Tryz.prog W 0 (fun _ => true) false fuel 142 cs = some (.agg wordsD, p)) : cs = wordsA.toList := by
  obtain ⟨xs, m, _, hx, hl, hlen, hf⟩ := DataW.trod_array Tryz.underlying142 h
  rw [cellsWd] at hl
  simp only [cellsStr, Nat.mul_one] at hf
  simp only [Prod.mk.injEq, DataW.agg.injEq] at hx
  rw [wordsA_list]
  apply List.ext_getElem?
  intro i
  by_cases hi : i < 27
  · have hfi := hf i hi
    have hxi : xs[i]? = some xs[i] := List.getElem?_eq_getElem (by omega)
    rw [hxi] at hfi
    obtain ⟨s, h1, h2⟩ := DataW.trod_string Tryz.underlying9 hfi
    have hc : cs[i]? = some (.string s) := by
      have := congrArg (·[0]?) h1
      simpa [List.getElem?_take, List.getElem?_drop] using this
    have hd : (xs.map (·.1))[i]? = some (.lit (.string s.data.toList)) := by rw [List.getElem?_map, hxi, h2.1]; rfl
    rw [← hx.1] at hd
    unfold wordsD at hd
    rw [List.getElem?_map, List.getElem?_range hi] at hd
    simp only [Option.map_some, Option.some.injEq, DataW.lit.injEq, Lit.string.injEq] at hd
    have hs := bytes_eq.1 hd
    rw [hc, List.getElem?_map, List.getElem?_range hi, ← hs]
    rfl
  · rw [List.getElem?_eq_none (by omega), List.getElem?_eq_none (by simp; omega)]
theorem wd_of_laid {W : World} {r : List (String × DataW Unit)} (h : laidMet Tryz.prog (("isthmus/lex.words", Rows.laid_isthmus_lex_words) :: r) W) : Wd W := by
  rw [wordsD_eq] at h
  obtain ⟨ps, ⟨g', t', cs, fuel, p, q, hg', ht', hvar, hd, _, _⟩, _⟩ := h
  obtain rfl := Option.some.inj (gWd.symm.trans hg')
  obtain rfl := Option.some.inj (gWdType.symm.trans ht')
  have hcs := words_of_cells hd
  have hcs' : cs = wordsA := Array.toList_inj.1 hcs
  subst hcs'
  simp only [World.var?, gWd, Option.bind_some] at hvar
  split at hvar
  · rename_i c t fr hh
    cases hvar
    exact ⟨t, fr, hh⟩
  · cases hvar
/-- What a variable's block is laid with. -/
def layCells (cs : Array Value) : Obj → Obj
  | .cells _ t frozen => .cells cs t frozen
  | o => o
def litCells : DataW Unit → List Value
  | .agg l => l.map fun d => match d with | .lit (.int k z) => Value.int k z | _ => .nilIface
  | _ => []
abbrev synS : ByteArray := ⟨#[105, 110, 118, 97, 108, 105, 100, 32, 115, 121, 110, 116, 97, 120]⟩
abbrev rngS : ByteArray := ⟨#[118, 97, 108, 117, 101, 32, 111, 117, 116, 32, 111, 102, 32, 114, 97, 110, 103, 101]⟩
def lowB (P : Program) : Nat := (World.holding P default ⟨#[], #[], []⟩).heap.size
/-- A world for the witness: the settled one, the variables holding what their initialisers lay. -/
def laidWorld (P : Program) (os : Os) : World :=
  let w0 := World.holding P os ⟨#[.cells #[.string synS] 178, .cells #[.string rngS] 178], #[], []⟩
  { w0 with heap := (((((w0.heap.modify 7 (layCells (litCells Rows.laid_math_bits_deBruijn32tab).toArray)).modify 8 (layCells (litCells Rows.laid_math_bits_deBruijn64tab).toArray)).modify 6 (layCells (litCells Rows.laid_internal_strconv_uint64pow10).toArray)).modify 1 (layCells wordsA)).modify 4 (layCells #[.iface 176 (.pointer (some ⟨lowB P, 0, none⟩))])).modify 5 (layCells #[.iface 176 (.pointer (some ⟨lowB P + 1, 0, none⟩))]) }
end Go.Proofs.YtafnlhnenmpfoaaGreatDoor
