/- A slice of trees that grows, under labels. -/
import Derived.Test.YtfpmaeflmboalaaGreatDoorSynW
import Derived.Deep.RegionHeld
import Derived.Test.YtfpmaeflmboalaaGreatDoorBrkM
import Derived.Test.YtfpmaeflmboalaaGreatDoorSynK
import Derived.Test.YtfpmaeflmboalaaGreatDoorSzA
namespace Go.Proofs.YtfpmaeflmboalaaGreatDoor
open Go.ChangeShapes Go.WideShapes Go.ChangeAt Go.RowKit
set_option linter.unusedVariables false
set_option linter.unusedSimpArgs false

/-- What one of the kids is. -/
theorem Sl.kidQ {P : Nat → Prop} {w : World} {x r : Fs} {k n : Int} {nm : List UInt8} {a : Int} {ks : Fs} {ao : Option Addr} (h : Sl w P (x.app (.cons k n nm a ks r)) ao) : ∃ b off ak ck, ao = some ⟨b, off, none⟩ ∧ b < w.heap.size ∧ P b ∧ w.cell? ⟨b, off + x.len * 5, none⟩ = some (.int .i64 k) ∧ w.cell? ⟨b, off + x.len * 5 + 1, none⟩ = some (.int .i64 n) ∧ w.cell? ⟨b, off + x.len * 5 + 2, none⟩ = some (stv nm) ∧ w.cell? ⟨b, off + x.len * 5 + 3, none⟩ = some (.slice ak ks.len ck) ∧ w.cell? ⟨b, off + x.len * 5 + 4, none⟩ = some (.int .i64 a) ∧ Sl w P ks ak := by
  rcases h with h | ⟨b, off, zs, rfl, hp, hlt, hc, hf⟩
  · cases x using Fs.on with
    | nil => cases h
    | cons k n nm a ks r => cases h
  · obtain ⟨zx, zy, rfl, h3, h4⟩ := Fc.split hf
    have hl := h3.len
    obtain ⟨ak, ck, ys, rfl, h5, h6⟩ := h4
    have hc' : ∀ j u, (.int .i64 k :: .int .i64 n :: stv nm :: .slice ak ks.len ck :: .int .i64 a :: ys : List Value)[j]? = some u → w.cell? ⟨b, off + x.len * 5 + j, none⟩ = some u := fun j u hu => by
      have := hc (x.len * 5 + j) u (by rw [List.getElem?_append_right (by omega), hl, Nat.add_sub_cancel_left]; exact hu)
      rw [Nat.add_assoc]
      exact this
    exact ⟨b, off, ak, ck, rfl, hlt, hp, hc' 0 _ rfl, hc' 1 _ rfl, hc' 2 _ rfl, hc' 3 _ rfl, hc' 4 _ rfl, h5⟩
abbrev SlA (w : World) (f : Fs) (ao : Option Addr) : Prop := Sl w (fun _ => True) f ao
theorem SlA.below {w w' : World} {f : Fs} {ao : Option Addr} (h : SlA w f ao) (b : Below w.heap.size w w') : SlA w' f ao := h.mono (fun i _ hl => b.block i hl) b.size (fun _ h _ => h)
def WholeOk (N : Nat) : Prop := ∀ (e : Ex) (ao ao2 : Option Addr) (cap cap2 : Nat) (w : World), e.kids.size < N → e.kids.len ≤ 1000000000 → e.kids.short → SlA w e.kids ao → SlA w e.kids ao2 →
  Calls Tryz.prog 8 #[exV e ao cap, exV e ao2 cap2] w fun x w' => x = .returned (.bool true) ∧ Below w.heap.size w w'
set_option maxRecDepth 100000 in
set_option maxHeartbeats 1000000 in
theorem whole_step {N : Nat} (IH : WholeOk N) : WholeOk (N + 1) := by
  intro e ao ao2 cap cap2 w hN hlen hsh S S2
  have B0 : Below w.heap.size w ((w.alloc (.cells #[.int .i64 e.k, .int .i64 e.n, stv e.nm, .slice ao e.kids.len cap, .int .i64 e.a] 25)).alloc (.cells #[.int .i64 e.k, .int .i64 e.n, stv e.nm, .slice ao2 e.kids.len cap2, .int .i64 e.a] 25)) := ((Below.refl _ w).alloc (Nat.le_refl _) _).alloc (by simp) _
  have E0 : ((w.alloc (.cells #[.int .i64 e.k, .int .i64 e.n, stv e.nm, .slice ao e.kids.len cap, .int .i64 e.a] 25)).alloc (.cells #[.int .i64 e.k, .int .i64 e.n, stv e.nm, .slice ao2 e.kids.len cap2, .int .i64 e.a] 25)).heap[w.heap.size]? = some (.cells #[.int .i64 e.k, .int .i64 e.n, stv e.nm, .slice ao e.kids.len cap, .int .i64 e.a] 25) := (Below.heap_alloc _ _ _ (by simp)).trans (heap_alloc_new w _)
  have Y0 : ((w.alloc (.cells #[.int .i64 e.k, .int .i64 e.n, stv e.nm, .slice ao e.kids.len cap, .int .i64 e.a] 25)).alloc (.cells #[.int .i64 e.k, .int .i64 e.n, stv e.nm, .slice ao2 e.kids.len cap2, .int .i64 e.a] 25)).heap[w.heap.size + 1]? = some (.cells #[.int .i64 e.k, .int .i64 e.n, stv e.nm, .slice ao2 e.kids.len cap2, .int .i64 e.a] 25) := by
    have := heap_alloc_new (w.alloc (.cells #[.int .i64 e.k, .int .i64 e.n, stv e.nm, .slice ao e.kids.len cap, .int .i64 e.a] 25)) (.cells #[.int .i64 e.k, .int .i64 e.n, stv e.nm, .slice ao2 e.kids.len cap2, .int .i64 e.a] 25)
    simpa using this
  have S0 := S.below B0
  have T0 := S2.below B0
  rw [exV_out, exV_out]
  go_enter Tryz.func8, Tryz.ntmps8
  go_upto_region 1 with fail
  generalize (w.alloc (.cells #[.int .i64 e.k, .int .i64 e.n, stv e.nm, .slice ao e.kids.len cap, .int .i64 e.a] 25)).alloc (.cells #[.int .i64 e.k, .int .i64 e.n, stv e.nm, .slice ao2 e.kids.len cap2, .int .i64 e.a] 25) = w0 at *
  obtain ⟨bx, hbx⟩ : ∃ bx, bx = w.heap.size := ⟨_, rfl⟩
  rw [← hbx] at E0 Y0 B0 ⊢
  have HB : Hid (bx = w.heap.size) := hbx
  clear hbx S S2
  obtain ⟨p0, p1, p2, p3, p4, pf⟩ := box5 E0
  obtain ⟨q0, q1, q2, q3, q4, qf⟩ := box5 Y0
  go_wp2
  go_loopw [5] (fun v wr => ∃ (done r : Fs), Hid (e.kids = done.app r) ∧ v = .int .i64 (done.len : Nat) ∧ wr.heap[bx]? = some (.cells #[.int .i64 e.k, .int .i64 e.n, stv e.nm, .slice ao e.kids.len cap, .int .i64 e.a] 25) ∧ wr.heap[bx + 1]? = some (.cells #[.int .i64 e.k, .int .i64 e.n, stv e.nm, .slice ao2 e.kids.len cap2, .int .i64 e.a] 25) ∧ SlA wr e.kids ao ∧ SlA wr e.kids ao2 ∧ Below bx w wr) (fun v _ => e.kids.len - (intOf v).toNat)
  case atStart => exact ⟨.nil, e.kids, rfl, by show _ = Value.int .i64 ((0 : Nat) : Int); rfl, E0, Y0, S0, T0, B0⟩
  case round =>
    clear E0 Y0 S0 T0 B0 p0 p1 p2 p3 p4 pf q0 q1 q2 q3 q4 qf
    obtain ⟨done, r, hk, rfl, E1, Y1, S1, T1, B1⟩ := hrel
    have hlk : e.kids.len = done.len + r.len := by rw [hk.out, Fs.len_app]
    obtain ⟨p0, p1, p2, p3, p4, pf⟩ := box5 E1
    obtain ⟨q0, q1, q2, q3, q4, qf⟩ := box5 Y1
    cases r using Fs.on with
    | nil =>
      have hl0 : ¬ (done.len : Int) < (e.kids.len : Int) := by simp only [Fs.len] at hlk; omega
      clear hlk
      go_wp2
      go_ret
      exact ⟨rfl, by rw [← HB.out]; exact B1⟩
    | cons kk kn km ka kks kr =>
      have hl0 : (done.len : Int) < (e.kids.len : Int) := by simp only [Fs.len] at hlk; omega
      have hl1 : done.len < e.kids.len := by omega
      have hsz : e.kids.size = done.size + (kks.size + kr.size + 1) := by rw [hk.out, Fs.size_app]; rfl
      have hsk : (Fs.cons kk kn km ka kks kr).short := Fs.app_short (by rw [← hk.out]; exact hsh)
      obtain ⟨b, off, ak, ck, hao, lb1, -, x0, x1, x2, x3, x4, SK⟩ := Sl.kidQ (by rw [← hk.out]; exact S1)
      obtain ⟨b', off', ak', ck', hao', lb2, -, y0, y1, y2, y3, y4, TK⟩ := Sl.kidQ (by rw [← hk.out]; exact T1)
      subst hao hao'
      have hc := IH ⟨kk, kn, km, ka, kks⟩ ak ak' ck ck' wr.drew (by show kks.size < N; omega) hsk.2.1 hsk.2.2.1 (SlA.below SK (Below.refl _ wr).drew) (SlA.below TK (Below.refl _ wr).drew)
      rw [exV_out, exV_out] at hc
      simp only at hc
      clear hlk hsz hsk SK TK
      go_wp2
      have k0 : wr.cell? ⟨bx, 3, none⟩ = some (.slice (some ⟨b, off, none⟩) e.kids.len cap) ∧ wr.cell? ⟨bx + 1, 3, none⟩ = some (.slice (some ⟨b', off', none⟩) e.kids.len cap2) ∧ wr.cell? ⟨b, off + done.len * 5, none⟩ = some (.int .i64 kk) ∧ wr.cell? ⟨b, off + done.len * 5 + 1, none⟩ = some (.int .i64 kn) ∧ wr.cell? ⟨b, off + done.len * 5 + 2, none⟩ = some (stv km) ∧ wr.cell? ⟨b, off + done.len * 5 + 3, none⟩ = some (.slice ak kks.len ck) ∧ wr.cell? ⟨b, off + done.len * 5 + 4, none⟩ = some (.int .i64 ka) ∧ wr.cell? ⟨b', off' + done.len * 5, none⟩ = some (.int .i64 kk) ∧ wr.cell? ⟨b', off' + done.len * 5 + 1, none⟩ = some (.int .i64 kn) ∧ wr.cell? ⟨b', off' + done.len * 5 + 2, none⟩ = some (stv km) ∧ wr.cell? ⟨b', off' + done.len * 5 + 3, none⟩ = some (.slice ak' kks.len ck') ∧ wr.cell? ⟨b', off' + done.len * 5 + 4, none⟩ = some (.int .i64 ka) := ⟨p3, q3, x0, x1, x2, x3, x4, y0, y1, y2, y3, y4⟩
      have k1 : wr.drew.cell? ⟨bx, 3, none⟩ = some (.slice (some ⟨b, off, none⟩) e.kids.len cap) ∧ wr.drew.cell? ⟨bx + 1, 3, none⟩ = some (.slice (some ⟨b', off', none⟩) e.kids.len cap2) ∧ wr.drew.cell? ⟨b, off + done.len * 5, none⟩ = some (.int .i64 kk) ∧ wr.drew.cell? ⟨b, off + done.len * 5 + 1, none⟩ = some (.int .i64 kn) ∧ wr.drew.cell? ⟨b, off + done.len * 5 + 2, none⟩ = some (stv km) ∧ wr.drew.cell? ⟨b, off + done.len * 5 + 3, none⟩ = some (.slice ak kks.len ck) ∧ wr.drew.cell? ⟨b, off + done.len * 5 + 4, none⟩ = some (.int .i64 ka) ∧ wr.drew.cell? ⟨b', off' + done.len * 5, none⟩ = some (.int .i64 kk) ∧ wr.drew.cell? ⟨b', off' + done.len * 5 + 1, none⟩ = some (.int .i64 kn) ∧ wr.drew.cell? ⟨b', off' + done.len * 5 + 2, none⟩ = some (stv km) ∧ wr.drew.cell? ⟨b', off' + done.len * 5 + 3, none⟩ = some (.slice ak' kks.len ck') ∧ wr.drew.cell? ⟨b', off' + done.len * 5 + 4, none⟩ = some (.int .i64 ka) := k0
      have lb : bx + 1 < wr.drew.heap.size := lt_of_block Y1
      go_region_held (fun wx => wx.cell? ⟨bx, 3, none⟩ = some (.slice (some ⟨b, off, none⟩) e.kids.len cap) ∧ wx.cell? ⟨bx + 1, 3, none⟩ = some (.slice (some ⟨b', off', none⟩) e.kids.len cap2) ∧ wx.cell? ⟨b, off + done.len * 5, none⟩ = some (.int .i64 kk) ∧ wx.cell? ⟨b, off + done.len * 5 + 1, none⟩ = some (.int .i64 kn) ∧ wx.cell? ⟨b, off + done.len * 5 + 2, none⟩ = some (stv km) ∧ wx.cell? ⟨b, off + done.len * 5 + 3, none⟩ = some (.slice ak kks.len ck) ∧ wx.cell? ⟨b, off + done.len * 5 + 4, none⟩ = some (.int .i64 ka) ∧ wx.cell? ⟨b', off' + done.len * 5, none⟩ = some (.int .i64 kk) ∧ wx.cell? ⟨b', off' + done.len * 5 + 1, none⟩ = some (.int .i64 kn) ∧ wx.cell? ⟨b', off' + done.len * 5 + 2, none⟩ = some (stv km) ∧ wx.cell? ⟨b', off' + done.len * 5 + 3, none⟩ = some (.slice ak' kks.len ck') ∧ wx.cell? ⟨b', off' + done.len * 5 + 4, none⟩ = some (.int .i64 ka)) (first | (with_reducible exact k2) | (with_reducible exact k1) | (with_reducible exact k0)) ((go_at_call 8; refine hc.mono ?_; rintro x w2 ⟨rfl, b2⟩; have k2 : w2.cell? ⟨bx, 3, none⟩ = some (.slice (some ⟨b, off, none⟩) e.kids.len cap) ∧ w2.cell? ⟨bx + 1, 3, none⟩ = some (.slice (some ⟨b', off', none⟩) e.kids.len cap2) ∧ w2.cell? ⟨b, off + done.len * 5, none⟩ = some (.int .i64 kk) ∧ w2.cell? ⟨b, off + done.len * 5 + 1, none⟩ = some (.int .i64 kn) ∧ w2.cell? ⟨b, off + done.len * 5 + 2, none⟩ = some (stv km) ∧ w2.cell? ⟨b, off + done.len * 5 + 3, none⟩ = some (.slice ak kks.len ck) ∧ w2.cell? ⟨b, off + done.len * 5 + 4, none⟩ = some (.int .i64 ka) ∧ w2.cell? ⟨b', off' + done.len * 5, none⟩ = some (.int .i64 kk) ∧ w2.cell? ⟨b', off' + done.len * 5 + 1, none⟩ = some (.int .i64 kn) ∧ w2.cell? ⟨b', off' + done.len * 5 + 2, none⟩ = some (stv km) ∧ w2.cell? ⟨b', off' + done.len * 5 + 3, none⟩ = some (.slice ak' kks.len ck') ∧ w2.cell? ⟨b', off' + done.len * 5 + 4, none⟩ = some (.int .i64 ka) := ⟨(b2.cell (p := ⟨bx, 3, none⟩) (Nat.lt_of_succ_lt lb)).trans p3, (b2.cell (p := ⟨bx + 1, 3, none⟩) lb).trans q3, (b2.cell (p := ⟨b, off + done.len * 5, none⟩) lb1).trans x0, (b2.cell (p := ⟨b, off + done.len * 5 + 1, none⟩) lb1).trans x1, (b2.cell (p := ⟨b, off + done.len * 5 + 2, none⟩) lb1).trans x2, (b2.cell (p := ⟨b, off + done.len * 5 + 3, none⟩) lb1).trans x3, (b2.cell (p := ⟨b, off + done.len * 5 + 4, none⟩) lb1).trans x4, (b2.cell (p := ⟨b', off' + done.len * 5, none⟩) lb2).trans y0, (b2.cell (p := ⟨b', off' + done.len * 5 + 1, none⟩) lb2).trans y1, (b2.cell (p := ⟨b', off' + done.len * 5 + 2, none⟩) lb2).trans y2, (b2.cell (p := ⟨b', off' + done.len * 5 + 3, none⟩) lb2).trans y3, (b2.cell (p := ⟨b', off' + done.len * 5 + 4, none⟩) lb2).trans y4⟩))
      have B2 : Below bx w w2 := (B1.drew).trans (b2.mono (by have := HB.out; have := B1.size; show bx ≤ wr.heap.size; omega))
      have E2 := (b2.block bx (Nat.lt_of_succ_lt lb)).trans E1
      have Y2 := (b2.block (bx + 1) lb).trans Y1
      have S2 := SlA.below (SlA.below S1 (Below.refl _ wr).drew) b2
      have T2 := SlA.below (SlA.below T1 (Below.refl _ wr).drew) b2
      have hk2 : Hid (e.kids = (done.snoc ⟨kk, kn, km, ka, kks⟩).app kr) := by show e.kids = _; rw [hk.out]; unfold Fs.snoc; rw [Fs.app_assoc]; rfl
      have hl2 : (done.len : Int) + 1 = ((done.snoc ⟨kk, kn, km, ka, kks⟩).len : Nat) := by rw [Fs.len_snoc]; rfl
      have hl3 : e.kids.len - (done.len + 1) < e.kids.len - done.len := by omega
      clear k0 k1 k2 p0 p1 p2 p3 p4 pf q0 q1 q2 q3 q4 qf x0 x1 x2 x3 x4 y0 y1 y2 y3 y4 hc b2 E1 Y1 S1 T1 B1 hk
      go_wp2
      go_roundw
      case rel => exact ⟨_, kr, hk2, by rw [← hl2], E2, Y2, S2, T2, B2⟩
      case measure => simp [intOf]; omega
theorem whole_ok : ∀ N, WholeOk N
  | 0 => fun e ao ao2 cap cap2 w h => absurd h (Nat.not_lt_zero _)
  | N + 1 => whole_step (whole_ok N)
end Go.Proofs.YtfpmaeflmboalaaGreatDoor
namespace Go.Proofs.YtfpmaeflmboalaaGreatDoor
open Go.ChangeShapes Go.WideShapes Go.ChangeAt Go.RowKit
set_option linter.unusedVariables false
set_option linter.unusedSimpArgs false

/-- Places are small. -/
def Fs.plc : Fs → Prop
  | ⟨none⟩ => True
  | ⟨some ⟨_, _, _, a, ks, r⟩⟩ => 0 ≤ a ∧ a ≤ 1000000000 ∧ ks.plc ∧ r.plc
/-- What a call that makes a tree answers. -/
def PostM (w : World) (y : Ex) (x : Ending) (w' : World) : Prop := ∃ ao cap, x = .returned (exV y ao cap) ∧ Sl w' (Nw w.heap.size) y.kids ao ∧ Below w.heap.size w w'
/-- Blocks of this call's own, of no label. -/
abbrev N0 (n0 : Nat) (o : Nat → Nat) : Nat → Prop := fun b => n0 ≤ b ∧ o b = 0
/-- A slice of trees that grows, under label 2. -/
def AccL (w : World) (o : Nat → Nat) (n0 : Nat) (acc : Fs) (v : Value) : Prop := ∃ xs, Row w o 2 25 5 v acc.len xs ∧ Fc w (N0 n0 o) acc xs
theorem Fc.lab {I : Nat → Prop} {w w' : World} {o o' : Nat → Nat} {n0 : Nat} {f : Fs} {xs : List Value} (h : Fc w (N0 n0 o) f xs) (s : Step I w o w' o') (h0 : ¬ I 0) : Fc w' (N0 n0 o') f xs :=
  h.mono (fun i hp hl => s.block i hl (by rw [hp.2]; exact h0)) s.size (fun i hp hl => ⟨hp.1, (s.lab i hl).trans hp.2⟩)
theorem Sl.lab {I : Nat → Prop} {w w' : World} {o o' : Nat → Nat} {n0 : Nat} {f : Fs} {ao : Option Addr} (h : Sl w (N0 n0 o) f ao) (s : Step I w o w' o') (h0 : ¬ I 0) : Sl w' (N0 n0 o') f ao :=
  h.mono (fun i hp hl => s.block i hl (by rw [hp.2]; exact h0)) s.size (fun i hp hl => ⟨hp.1, (s.lab i hl).trans hp.2⟩)
theorem AccL.step {I : Nat → Prop} {w w' : World} {o o' : Nat → Nat} {n0 : Nat} {acc : Fs} {v : Value} (h : AccL w o n0 acc v) (s : Step I w o w' o') (h0 : ¬ I 0) (h2 : ¬ I 2) : AccL w' o' n0 acc v := by
  obtain ⟨xs, r, f⟩ := h
  exact ⟨xs, r.step s h2, f.lab s h0⟩
theorem AccL.push {w w2 : World} {o o2 : Nat → Nat} {n0 : Nat} {acc : Fs} {xs : List Value} {v2 : Value} {y : Ex} {ao : Option Addr} {ce : Nat} (f : Fc w (N0 n0 o) acc xs) (S : Sl w (N0 n0 o) y.kids ao) (s : Step (fun x => x = 2) w o w2 o2)
    (r : Row w2 o2 2 25 5 v2 (acc.len + 1) (xs ++ [.int .i64 y.k, .int .i64 y.n, stv y.nm, .slice ao y.kids.len ce, .int .i64 y.a])) : AccL w2 o2 n0 (acc.snoc y) v2 :=
  ⟨_, by rw [Fs.len_snoc]; exact r, (f.lab s (by decide)).app (Fc.one ce (S.lab s (by decide)))⟩
theorem AccL.sl {w : World} {o : Nat → Nat} {n0 : Nat} {acc : Fs} {v : Value} (h : AccL w o n0 acc v) (ho : ∀ k, k < n0 → o k = 0) : ∃ ao cap, v = .slice ao acc.len cap ∧ Sl w (fun b => n0 ≤ b ∧ (o b = 0 ∨ o b = 2)) acc ao := by
  obtain ⟨xs, r, f⟩ := h
  by_cases h0 : 0 < acc.len
  · obtain ⟨g, cap, rfl, hg, _, _, hlt, hc, _⟩ := r.pos h0
    have hl := r.len
    refine ⟨_, cap, rfl, .inr ⟨g, 0, xs, rfl, ⟨?_, .inr hg⟩, hlt, fun j u hu => ?_, f.mono (fun _ _ _ => rfl) (Nat.le_refl _) (fun _ hp _ => ⟨hp.1, .inl hp.2⟩)⟩⟩
    · by_cases hn : n0 ≤ g
      · exact hn
      · have := ho g (by omega)
        omega
    · rw [Nat.zero_add, hc j ?_]
      · exact hu
      · rw [← hl]
        by_cases hj : j < xs.length
        · exact hj
        · rw [List.getElem?_eq_none (by omega)] at hu
          cases hu
  · obtain ⟨ao, cap, rfl⟩ := r.form
    refine ⟨ao, cap, rfl, .inl ?_⟩
    cases acc using Fs.on with
    | nil => rfl
    | cons k n nm a ks r => simp [Fs.len] at h0
theorem below_stepB {I : Nat → Prop} {n0 : Nat} {a w w' : World} {o o' : Nat → Nat} (b : Below n0 a w) (s : Step I w o w' o') (h : ∀ k, k < n0 → ¬ I (o k)) (hn : n0 ≤ a.heap.size) : Below n0 a w' :=
  ⟨s.os.trans b.os, s.tape.trans b.tape, s.output.trans b.output, Nat.le_trans b.size s.size, fun k hk => (s.block k (by have := b.size; omega) (h k hk)).trans (b.block k hk)⟩
theorem app_nil' : ∀ (x : Fs), x.app .nil = x
  | ⟨none⟩ => rfl
  | ⟨some ⟨k, n, nm, a, ks, r⟩⟩ => by simp only [Fs.app]; rw [app_nil' r]
theorem Fs.app_plc : ∀ {x y : Fs}, (x.app y).plc → y.plc
  | ⟨none⟩, y, h => h
  | ⟨some ⟨k, n, nm, a, ks, r⟩⟩, y, h => Fs.app_plc h.2.2.2
theorem Fs.len_mv (d : Nat) : ∀ (x : Fs), (x.mv d).len = x.len
  | ⟨none⟩ => rfl
  | ⟨some ⟨k, n, nm, a, ks, r⟩⟩ => by simp only [Fs.mv, Fs.len]; rw [Fs.len_mv d r]
end Go.Proofs.YtfpmaeflmboalaaGreatDoor
