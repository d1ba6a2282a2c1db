/- A tree whose places are by some more: moves of package isthmuslaw12. -/
import Derived.Test.YtlmeonpdjcophaaDoorSynW
import Derived.Deep.RegionHeld
import Derived.Test.YtlmeonpdjcophaaDoorBrkM
import Derived.Test.YtlmeonpdjcophaaDoorSynK
import Derived.Test.YtlmeonpdjcophaaDoorSzA
namespace Go.Proofs.YtlmeonpdjcophaaDoor
open Go.ChangeShapes Go.WideShapes Go.ChangeAt Go.RowKit
set_option linter.unusedVariables false
set_option linter.unusedSimpArgs false

/-- What one of the kids is. -/
theorem Sl.kidQ {P : Nat → Prop} {w : World} {x r : Fs} {k n : Int} {nm : List UInt8} {a : Int} {ks : Fs} {ao : Option Addr} (h : Sl w P (x.app (.cons k n nm a ks r)) ao) : ∃ b off ak ck, ao = some ⟨b, off, none⟩ ∧ b < w.heap.size ∧ P b ∧ w.cell? ⟨b, off + x.len * 5, none⟩ = some (.int .i64 k) ∧ w.cell? ⟨b, off + x.len * 5 + 1, none⟩ = some (.int .i64 n) ∧ w.cell? ⟨b, off + x.len * 5 + 2, none⟩ = some (stv nm) ∧ w.cell? ⟨b, off + x.len * 5 + 3, none⟩ = some (.slice ak ks.len ck) ∧ w.cell? ⟨b, off + x.len * 5 + 4, none⟩ = some (.int .i64 a) ∧ Sl w P ks ak := by
  rcases h with h | ⟨b, off, zs, rfl, hp, hlt, hc, hf⟩
  · cases x using Fs.on with
    | nil => cases h
    | cons k n nm a ks r => cases h
  · obtain ⟨zx, zy, rfl, h3, h4⟩ := Fc.split hf
    have hl := h3.len
    obtain ⟨ak, ck, ys, rfl, h5, h6⟩ := h4
    have hc' : ∀ j u, (.int .i64 k :: .int .i64 n :: stv nm :: .slice ak ks.len ck :: .int .i64 a :: ys : List Value)[j]? = some u → w.cell? ⟨b, off + x.len * 5 + j, none⟩ = some u := fun j u hu => by
      have := hc (x.len * 5 + j) u (by rw [List.getElem?_append_right (by omega), hl, Nat.add_sub_cancel_left]; exact hu)
      rw [Nat.add_assoc]
      exact this
    exact ⟨b, off, ak, ck, rfl, hlt, hp, hc' 0 _ rfl, hc' 1 _ rfl, hc' 2 _ rfl, hc' 3 _ rfl, hc' 4 _ rfl, h5⟩
abbrev SlA (w : World) (f : Fs) (ao : Option Addr) : Prop := Sl w (fun _ => True) f ao
theorem SlA.below {w w' : World} {f : Fs} {ao : Option Addr} (h : SlA w f ao) (b : Below w.heap.size w w') : SlA w' f ao := h.mono (fun i _ hl => b.block i hl) b.size (fun _ h _ => h)
def WholeOk (N : Nat) : Prop := ∀ (e : Ex) (ao ao2 : Option Addr) (cap cap2 : Nat) (w : World), e.kids.size < N → e.kids.len ≤ 1000000000 → e.kids.short → SlA w e.kids ao → SlA w e.kids ao2 →
  Calls Tryd.prog 15 #[exV e ao cap, exV e ao2 cap2] w fun x w' => x = .returned (.bool true) ∧ Below w.heap.size w w'
set_option maxRecDepth 100000 in
set_option maxHeartbeats 1000000 in
theorem whole_step {N : Nat} (IH : WholeOk N) : WholeOk (N + 1) := by
  intro e ao ao2 cap cap2 w hN hlen hsh S S2
  have B0 : Below w.heap.size w ((w.alloc (.cells #[.int .i64 e.k, .int .i64 e.n, stv e.nm, .slice ao e.kids.len cap, .int .i64 e.a] 24)).alloc (.cells #[.int .i64 e.k, .int .i64 e.n, stv e.nm, .slice ao2 e.kids.len cap2, .int .i64 e.a] 24)) := ((Below.refl _ w).alloc (Nat.le_refl _) _).alloc (by simp) _
  have E0 : ((w.alloc (.cells #[.int .i64 e.k, .int .i64 e.n, stv e.nm, .slice ao e.kids.len cap, .int .i64 e.a] 24)).alloc (.cells #[.int .i64 e.k, .int .i64 e.n, stv e.nm, .slice ao2 e.kids.len cap2, .int .i64 e.a] 24)).heap[w.heap.size]? = some (.cells #[.int .i64 e.k, .int .i64 e.n, stv e.nm, .slice ao e.kids.len cap, .int .i64 e.a] 24) := (Below.heap_alloc _ _ _ (by simp)).trans (heap_alloc_new w _)
  have Y0 : ((w.alloc (.cells #[.int .i64 e.k, .int .i64 e.n, stv e.nm, .slice ao e.kids.len cap, .int .i64 e.a] 24)).alloc (.cells #[.int .i64 e.k, .int .i64 e.n, stv e.nm, .slice ao2 e.kids.len cap2, .int .i64 e.a] 24)).heap[w.heap.size + 1]? = some (.cells #[.int .i64 e.k, .int .i64 e.n, stv e.nm, .slice ao2 e.kids.len cap2, .int .i64 e.a] 24) := by
    have := heap_alloc_new (w.alloc (.cells #[.int .i64 e.k, .int .i64 e.n, stv e.nm, .slice ao e.kids.len cap, .int .i64 e.a] 24)) (.cells #[.int .i64 e.k, .int .i64 e.n, stv e.nm, .slice ao2 e.kids.len cap2, .int .i64 e.a] 24)
    simpa using this
  have S0 := S.below B0
  have T0 := S2.below B0
  rw [exV_out, exV_out]
  go_enter Tryd.func15, Tryd.ntmps15
  go_upto_region 1 with fail
  generalize (w.alloc (.cells #[.int .i64 e.k, .int .i64 e.n, stv e.nm, .slice ao e.kids.len cap, .int .i64 e.a] 24)).alloc (.cells #[.int .i64 e.k, .int .i64 e.n, stv e.nm, .slice ao2 e.kids.len cap2, .int .i64 e.a] 24) = w0 at *
  obtain ⟨bx, hbx⟩ : ∃ bx, bx = w.heap.size := ⟨_, rfl⟩
  rw [← hbx] at E0 Y0 B0 ⊢
  have HB : Hid (bx = w.heap.size) := hbx
  clear hbx S S2
  obtain ⟨p0, p1, p2, p3, p4, pf⟩ := box5 E0
  obtain ⟨q0, q1, q2, q3, q4, qf⟩ := box5 Y0
  go_wp2
  go_loopw [5] (fun v wr => ∃ (done r : Fs), Hid (e.kids = done.app r) ∧ v = .int .i64 (done.len : Nat) ∧ wr.heap[bx]? = some (.cells #[.int .i64 e.k, .int .i64 e.n, stv e.nm, .slice ao e.kids.len cap, .int .i64 e.a] 24) ∧ wr.heap[bx + 1]? = some (.cells #[.int .i64 e.k, .int .i64 e.n, stv e.nm, .slice ao2 e.kids.len cap2, .int .i64 e.a] 24) ∧ SlA wr e.kids ao ∧ SlA wr e.kids ao2 ∧ Below bx w wr) (fun v _ => e.kids.len - (intOf v).toNat)
  case atStart => exact ⟨.nil, e.kids, rfl, by show _ = Value.int .i64 ((0 : Nat) : Int); rfl, E0, Y0, S0, T0, B0⟩
  case round =>
    clear E0 Y0 S0 T0 B0 p0 p1 p2 p3 p4 pf q0 q1 q2 q3 q4 qf
    obtain ⟨done, r, hk, rfl, E1, Y1, S1, T1, B1⟩ := hrel
    have hlk : e.kids.len = done.len + r.len := by rw [hk.out, Fs.len_app]
    obtain ⟨p0, p1, p2, p3, p4, pf⟩ := box5 E1
    obtain ⟨q0, q1, q2, q3, q4, qf⟩ := box5 Y1
    cases r using Fs.on with
    | nil =>
      have hl0 : ¬ (done.len : Int) < (e.kids.len : Int) := by simp only [Fs.len] at hlk; omega
      clear hlk
      go_wp2
      go_ret
      exact ⟨rfl, by rw [← HB.out]; exact B1⟩
    | cons kk kn km ka kks kr =>
      have hl0 : (done.len : Int) < (e.kids.len : Int) := by simp only [Fs.len] at hlk; omega
      have hl1 : done.len < e.kids.len := by omega
      have hsz : e.kids.size = done.size + (kks.size + kr.size + 1) := by rw [hk.out, Fs.size_app]; rfl
      have hsk : (Fs.cons kk kn km ka kks kr).short := Fs.app_short (by rw [← hk.out]; exact hsh)
      obtain ⟨b, off, ak, ck, hao, lb1, -, x0, x1, x2, x3, x4, SK⟩ := Sl.kidQ (by rw [← hk.out]; exact S1)
      obtain ⟨b', off', ak', ck', hao', lb2, -, y0, y1, y2, y3, y4, TK⟩ := Sl.kidQ (by rw [← hk.out]; exact T1)
      subst hao hao'
      have hc := IH ⟨kk, kn, km, ka, kks⟩ ak ak' ck ck' wr.drew (by show kks.size < N; omega) hsk.2.1 hsk.2.2.1 (SlA.below SK (Below.refl _ wr).drew) (SlA.below TK (Below.refl _ wr).drew)
      rw [exV_out, exV_out] at hc
      simp only at hc
      clear hlk hsz hsk SK TK
      go_wp2
      have k0 : wr.cell? ⟨bx, 3, none⟩ = some (.slice (some ⟨b, off, none⟩) e.kids.len cap) ∧ wr.cell? ⟨bx + 1, 3, none⟩ = some (.slice (some ⟨b', off', none⟩) e.kids.len cap2) ∧ wr.cell? ⟨b, off + done.len * 5, none⟩ = some (.int .i64 kk) ∧ wr.cell? ⟨b, off + done.len * 5 + 1, none⟩ = some (.int .i64 kn) ∧ wr.cell? ⟨b, off + done.len * 5 + 2, none⟩ = some (stv km) ∧ wr.cell? ⟨b, off + done.len * 5 + 3, none⟩ = some (.slice ak kks.len ck) ∧ wr.cell? ⟨b, off + done.len * 5 + 4, none⟩ = some (.int .i64 ka) ∧ wr.cell? ⟨b', off' + done.len * 5, none⟩ = some (.int .i64 kk) ∧ wr.cell? ⟨b', off' + done.len * 5 + 1, none⟩ = some (.int .i64 kn) ∧ wr.cell? ⟨b', off' + done.len * 5 + 2, none⟩ = some (stv km) ∧ wr.cell? ⟨b', off' + done.len * 5 + 3, none⟩ = some (.slice ak' kks.len ck') ∧ wr.cell? ⟨b', off' + done.len * 5 + 4, none⟩ = some (.int .i64 ka) := ⟨p3, q3, x0, x1, x2, x3, x4, y0, y1, y2, y3, y4⟩
      have k1 : wr.drew.cell? ⟨bx, 3, none⟩ = some (.slice (some ⟨b, off, none⟩) e.kids.len cap) ∧ wr.drew.cell? ⟨bx + 1, 3, none⟩ = some (.slice (some ⟨b', off', none⟩) e.kids.len cap2) ∧ wr.drew.cell? ⟨b, off + done.len * 5, none⟩ = some (.int .i64 kk) ∧ wr.drew.cell? ⟨b, off + done.len * 5 + 1, none⟩ = some (.int .i64 kn) ∧ wr.drew.cell? ⟨b, off + done.len * 5 + 2, none⟩ = some (stv km) ∧ wr.drew.cell? ⟨b, off + done.len * 5 + 3, none⟩ = some (.slice ak kks.len ck) ∧ wr.drew.cell? ⟨b, off + done.len * 5 + 4, none⟩ = some (.int .i64 ka) ∧ wr.drew.cell? ⟨b', off' + done.len * 5, none⟩ = some (.int .i64 kk) ∧ wr.drew.cell? ⟨b', off' + done.len * 5 + 1, none⟩ = some (.int .i64 kn) ∧ wr.drew.cell? ⟨b', off' + done.len * 5 + 2, none⟩ = some (stv km) ∧ wr.drew.cell? ⟨b', off' + done.len * 5 + 3, none⟩ = some (.slice ak' kks.len ck') ∧ wr.drew.cell? ⟨b', off' + done.len * 5 + 4, none⟩ = some (.int .i64 ka) := k0
      have lb : bx + 1 < wr.drew.heap.size := lt_of_block Y1
      go_region_held (fun wx => wx.cell? ⟨bx, 3, none⟩ = some (.slice (some ⟨b, off, none⟩) e.kids.len cap) ∧ wx.cell? ⟨bx + 1, 3, none⟩ = some (.slice (some ⟨b', off', none⟩) e.kids.len cap2) ∧ wx.cell? ⟨b, off + done.len * 5, none⟩ = some (.int .i64 kk) ∧ wx.cell? ⟨b, off + done.len * 5 + 1, none⟩ = some (.int .i64 kn) ∧ wx.cell? ⟨b, off + done.len * 5 + 2, none⟩ = some (stv km) ∧ wx.cell? ⟨b, off + done.len * 5 + 3, none⟩ = some (.slice ak kks.len ck) ∧ wx.cell? ⟨b, off + done.len * 5 + 4, none⟩ = some (.int .i64 ka) ∧ wx.cell? ⟨b', off' + done.len * 5, none⟩ = some (.int .i64 kk) ∧ wx.cell? ⟨b', off' + done.len * 5 + 1, none⟩ = some (.int .i64 kn) ∧ wx.cell? ⟨b', off' + done.len * 5 + 2, none⟩ = some (stv km) ∧ wx.cell? ⟨b', off' + done.len * 5 + 3, none⟩ = some (.slice ak' kks.len ck') ∧ wx.cell? ⟨b', off' + done.len * 5 + 4, none⟩ = some (.int .i64 ka)) (first | (with_reducible exact k2) | (with_reducible exact k1) | (with_reducible exact k0)) ((go_at_call 15; refine hc.mono ?_; rintro x w2 ⟨rfl, b2⟩; have k2 : w2.cell? ⟨bx, 3, none⟩ = some (.slice (some ⟨b, off, none⟩) e.kids.len cap) ∧ w2.cell? ⟨bx + 1, 3, none⟩ = some (.slice (some ⟨b', off', none⟩) e.kids.len cap2) ∧ w2.cell? ⟨b, off + done.len * 5, none⟩ = some (.int .i64 kk) ∧ w2.cell? ⟨b, off + done.len * 5 + 1, none⟩ = some (.int .i64 kn) ∧ w2.cell? ⟨b, off + done.len * 5 + 2, none⟩ = some (stv km) ∧ w2.cell? ⟨b, off + done.len * 5 + 3, none⟩ = some (.slice ak kks.len ck) ∧ w2.cell? ⟨b, off + done.len * 5 + 4, none⟩ = some (.int .i64 ka) ∧ w2.cell? ⟨b', off' + done.len * 5, none⟩ = some (.int .i64 kk) ∧ w2.cell? ⟨b', off' + done.len * 5 + 1, none⟩ = some (.int .i64 kn) ∧ w2.cell? ⟨b', off' + done.len * 5 + 2, none⟩ = some (stv km) ∧ w2.cell? ⟨b', off' + done.len * 5 + 3, none⟩ = some (.slice ak' kks.len ck') ∧ w2.cell? ⟨b', off' + done.len * 5 + 4, none⟩ = some (.int .i64 ka) := ⟨(b2.cell (p := ⟨bx, 3, none⟩) (Nat.lt_of_succ_lt lb)).trans p3, (b2.cell (p := ⟨bx + 1, 3, none⟩) lb).trans q3, (b2.cell (p := ⟨b, off + done.len * 5, none⟩) lb1).trans x0, (b2.cell (p := ⟨b, off + done.len * 5 + 1, none⟩) lb1).trans x1, (b2.cell (p := ⟨b, off + done.len * 5 + 2, none⟩) lb1).trans x2, (b2.cell (p := ⟨b, off + done.len * 5 + 3, none⟩) lb1).trans x3, (b2.cell (p := ⟨b, off + done.len * 5 + 4, none⟩) lb1).trans x4, (b2.cell (p := ⟨b', off' + done.len * 5, none⟩) lb2).trans y0, (b2.cell (p := ⟨b', off' + done.len * 5 + 1, none⟩) lb2).trans y1, (b2.cell (p := ⟨b', off' + done.len * 5 + 2, none⟩) lb2).trans y2, (b2.cell (p := ⟨b', off' + done.len * 5 + 3, none⟩) lb2).trans y3, (b2.cell (p := ⟨b', off' + done.len * 5 + 4, none⟩) lb2).trans y4⟩))
      have B2 : Below bx w w2 := (B1.drew).trans (b2.mono (by have := HB.out; have := B1.size; show bx ≤ wr.heap.size; omega))
      have E2 := (b2.block bx (Nat.lt_of_succ_lt lb)).trans E1
      have Y2 := (b2.block (bx + 1) lb).trans Y1
      have S2 := SlA.below (SlA.below S1 (Below.refl _ wr).drew) b2
      have T2 := SlA.below (SlA.below T1 (Below.refl _ wr).drew) b2
      have hk2 : Hid (e.kids = (done.snoc ⟨kk, kn, km, ka, kks⟩).app kr) := by show e.kids = _; rw [hk.out]; unfold Fs.snoc; rw [Fs.app_assoc]; rfl
      have hl2 : (done.len : Int) + 1 = ((done.snoc ⟨kk, kn, km, ka, kks⟩).len : Nat) := by rw [Fs.len_snoc]; rfl
      have hl3 : e.kids.len - (done.len + 1) < e.kids.len - done.len := by omega
      clear k0 k1 k2 p0 p1 p2 p3 p4 pf q0 q1 q2 q3 q4 qf x0 x1 x2 x3 x4 y0 y1 y2 y3 y4 hc b2 E1 Y1 S1 T1 B1 hk
      go_wp2
      go_roundw
      case rel => exact ⟨_, kr, hk2, by rw [← hl2], E2, Y2, S2, T2, B2⟩
      case measure => simp [intOf]; omega
theorem whole_ok : ∀ N, WholeOk N
  | 0 => fun e ao ao2 cap cap2 w h => absurd h (Nat.not_lt_zero _)
  | N + 1 => whole_step (whole_ok N)
end Go.Proofs.YtlmeonpdjcophaaDoor
namespace Go.Proofs.YtlmeonpdjcophaaDoor
open Go.ChangeShapes Go.WideShapes Go.ChangeAt Go.RowKit
set_option linter.unusedVariables false
set_option linter.unusedSimpArgs false

/-- Places are small. -/
def Fs.plc : Fs → Prop
  | ⟨none⟩ => True
  | ⟨some ⟨_, _, _, a, ks, r⟩⟩ => 0 ≤ a ∧ a ≤ 1000000000 ∧ ks.plc ∧ r.plc
/-- What a call that makes a tree answers. -/
def PostM (w : World) (y : Ex) (x : Ending) (w' : World) : Prop := ∃ ao cap, x = .returned (exV y ao cap) ∧ Sl w' (Nw w.heap.size) y.kids ao ∧ Below w.heap.size w w'
/-- Blocks of this call's own, of no label. -/
abbrev N0 (n0 : Nat) (o : Nat → Nat) : Nat → Prop := fun b => n0 ≤ b ∧ o b = 0
/-- A slice of trees that grows, under label 2. -/
def AccL (w : World) (o : Nat → Nat) (n0 : Nat) (acc : Fs) (v : Value) : Prop := ∃ xs, Row w o 2 24 5 v acc.len xs ∧ Fc w (N0 n0 o) acc xs
theorem Fc.lab {I : Nat → Prop} {w w' : World} {o o' : Nat → Nat} {n0 : Nat} {f : Fs} {xs : List Value} (h : Fc w (N0 n0 o) f xs) (s : Step I w o w' o') (h0 : ¬ I 0) : Fc w' (N0 n0 o') f xs :=
  h.mono (fun i hp hl => s.block i hl (by rw [hp.2]; exact h0)) s.size (fun i hp hl => ⟨hp.1, (s.lab i hl).trans hp.2⟩)
theorem Sl.lab {I : Nat → Prop} {w w' : World} {o o' : Nat → Nat} {n0 : Nat} {f : Fs} {ao : Option Addr} (h : Sl w (N0 n0 o) f ao) (s : Step I w o w' o') (h0 : ¬ I 0) : Sl w' (N0 n0 o') f ao :=
  h.mono (fun i hp hl => s.block i hl (by rw [hp.2]; exact h0)) s.size (fun i hp hl => ⟨hp.1, (s.lab i hl).trans hp.2⟩)
theorem AccL.step {I : Nat → Prop} {w w' : World} {o o' : Nat → Nat} {n0 : Nat} {acc : Fs} {v : Value} (h : AccL w o n0 acc v) (s : Step I w o w' o') (h0 : ¬ I 0) (h2 : ¬ I 2) : AccL w' o' n0 acc v := by
  obtain ⟨xs, r, f⟩ := h
  exact ⟨xs, r.step s h2, f.lab s h0⟩
theorem AccL.push {w w2 : World} {o o2 : Nat → Nat} {n0 : Nat} {acc : Fs} {xs : List Value} {v2 : Value} {y : Ex} {ao : Option Addr} {ce : Nat} (f : Fc w (N0 n0 o) acc xs) (S : Sl w (N0 n0 o) y.kids ao) (s : Step (fun x => x = 2) w o w2 o2)
    (r : Row w2 o2 2 24 5 v2 (acc.len + 1) (xs ++ [.int .i64 y.k, .int .i64 y.n, stv y.nm, .slice ao y.kids.len ce, .int .i64 y.a])) : AccL w2 o2 n0 (acc.snoc y) v2 :=
  ⟨_, by rw [Fs.len_snoc]; exact r, (f.lab s (by decide)).app (Fc.one ce (S.lab s (by decide)))⟩
theorem AccL.sl {w : World} {o : Nat → Nat} {n0 : Nat} {acc : Fs} {v : Value} (h : AccL w o n0 acc v) (ho : ∀ k, k < n0 → o k = 0) : ∃ ao cap, v = .slice ao acc.len cap ∧ Sl w (fun b => n0 ≤ b ∧ (o b = 0 ∨ o b = 2)) acc ao := by
  obtain ⟨xs, r, f⟩ := h
  by_cases h0 : 0 < acc.len
  · obtain ⟨g, cap, rfl, hg, _, _, hlt, hc, _⟩ := r.pos h0
    have hl := r.len
    refine ⟨_, cap, rfl, .inr ⟨g, 0, xs, rfl, ⟨?_, .inr hg⟩, hlt, fun j u hu => ?_, f.mono (fun _ _ _ => rfl) (Nat.le_refl _) (fun _ hp _ => ⟨hp.1, .inl hp.2⟩)⟩⟩
    · by_cases hn : n0 ≤ g
      · exact hn
      · have := ho g (by omega)
        omega
    · rw [Nat.zero_add, hc j ?_]
      · exact hu
      · rw [← hl]
        by_cases hj : j < xs.length
        · exact hj
        · rw [List.getElem?_eq_none (by omega)] at hu
          cases hu
  · obtain ⟨ao, cap, rfl⟩ := r.form
    refine ⟨ao, cap, rfl, .inl ?_⟩
    cases acc using Fs.on with
    | nil => rfl
    | cons k n nm a ks r => simp [Fs.len] at h0
theorem below_stepB {I : Nat → Prop} {n0 : Nat} {a w w' : World} {o o' : Nat → Nat} (b : Below n0 a w) (s : Step I w o w' o') (h : ∀ k, k < n0 → ¬ I (o k)) (hn : n0 ≤ a.heap.size) : Below n0 a w' :=
  ⟨s.os.trans b.os, s.tape.trans b.tape, s.output.trans b.output, Nat.le_trans b.size s.size, fun k hk => (s.block k (by have := b.size; omega) (h k hk)).trans (b.block k hk)⟩
theorem app_nil' : ∀ (x : Fs), x.app .nil = x
  | ⟨none⟩ => rfl
  | ⟨some ⟨k, n, nm, a, ks, r⟩⟩ => by simp only [Fs.app]; rw [app_nil' r]
theorem Fs.app_plc : ∀ {x y : Fs}, (x.app y).plc → y.plc
  | ⟨none⟩, y, h => h
  | ⟨some ⟨k, n, nm, a, ks, r⟩⟩, y, h => Fs.app_plc h.2.2.2
theorem Fs.len_mv (d : Nat) : ∀ (x : Fs), (x.mv d).len = x.len
  | ⟨none⟩ => rfl
  | ⟨some ⟨k, n, nm, a, ks, r⟩⟩ => by simp only [Fs.mv, Fs.len]; rw [Fs.len_mv d r]
def MovesOk (N : Nat) : Prop := ∀ (e : Ex) (ao : Option Addr) (cap d : Nat) (w : World), e.kids.size < N → e.kids.len ≤ 1000000000 → e.kids.short → 0 ≤ e.a → e.a ≤ 1000000000 → e.kids.plc → d ≤ 1000000000 → SlA w e.kids ao →
  Calls Tryd.prog 16 #[exV e ao cap, .int .i64 (d : Nat)] w (PostM w (e.mv d))
set_option maxRecDepth 100000 in
set_option maxHeartbeats 1000000 in
theorem moves_step {N : Nat} (IH : MovesOk N) : MovesOk (N + 1) := by
  intro e ao cap d w hN hlen hsh ha0 ha1 hpl hd S
  obtain ⟨ii, hii, hzi0, hzi1, hzi2⟩ := info_parts infoExpr
  obtain ⟨w0, hw0⟩ : ∃ w0, w0 = ((w.alloc (.cells #[.int .i64 e.k, .int .i64 e.n, stv e.nm, .slice ao e.kids.len cap, .int .i64 e.a] 24)).alloc (.cells #[.int .i64 0, .int .i64 0, .string ⟨#[]⟩, .slice none 0 0, .int .i64 0] 24)).alloc (.cells #[.int .i64 e.k, .int .i64 e.n, stv e.nm, .slice none 0 0, .int .i64 (e.a + (d : Nat))] 24) := ⟨_, rfl⟩
  have B0 : Below w.heap.size w w0 := by rw [hw0]; exact (((Below.refl _ w).alloc (Nat.le_refl _) _).alloc (by simp) _).alloc (by simp; omega) _
  obtain ⟨o0, ho0⟩ : ∃ o0 : Nat → Nat, o0 = fun k => if k = w.heap.size + 1 + 1 then 1 else if k = w.heap.size + 1 then 3 else 0 := ⟨_, rfl⟩
  have E0 : Blk w0 o0 0 w.heap.size (.cells #[.int .i64 e.k, .int .i64 e.n, stv e.nm, .slice ao e.kids.len cap, .int .i64 e.a] 24) := by
    refine ⟨?_, by rw [ho0]; simp only; rw [if_neg (by omega), if_neg (by omega)]⟩
    rw [hw0]
    exact (Below.heap_alloc _ _ _ (by simp; omega)).trans ((Below.heap_alloc _ _ _ (by simp)).trans (heap_alloc_new w _))
  have Z0 : Blk w0 o0 3 (w.heap.size + 1) (.cells #[.int .i64 0, .int .i64 0, .string ⟨#[]⟩, .slice none 0 0, .int .i64 0] 24) := by
    refine ⟨?_, by rw [ho0]; simp⟩
    rw [hw0]
    refine (Below.heap_alloc _ _ _ (by simp)).trans ?_
    have := heap_alloc_new (w.alloc (.cells #[.int .i64 e.k, .int .i64 e.n, stv e.nm, .slice ao e.kids.len cap, .int .i64 e.a] 24)) (.cells #[.int .i64 0, .int .i64 0, .string ⟨#[]⟩, .slice none 0 0, .int .i64 0] 24)
    simpa using this
  have O0 : Blk w0 o0 1 (w.heap.size + 1 + 1) (.cells #[.int .i64 e.k, .int .i64 e.n, stv e.nm, .slice none 0 0, .int .i64 (e.a + (d : Nat))] 24) := by
    refine ⟨?_, by rw [ho0]; simp⟩
    rw [hw0]
    have := heap_alloc_new ((w.alloc (.cells #[.int .i64 e.k, .int .i64 e.n, stv e.nm, .slice ao e.kids.len cap, .int .i64 e.a] 24)).alloc (.cells #[.int .i64 0, .int .i64 0, .string ⟨#[]⟩, .slice none 0 0, .int .i64 0] 24)) (.cells #[.int .i64 e.k, .int .i64 e.n, stv e.nm, .slice none 0 0, .int .i64 (e.a + (d : Nat))] 24)
    simpa using this
  have L0 : ∀ k, k < w.heap.size → o0 k = 0 := fun k hk => by rw [ho0]; simp only; rw [if_neg (by omega), if_neg (by omega)]
  have A0 : AccL w0 o0 w.heap.size (Fs.mv d .nil) (.slice none 0 0) := ⟨[], Row.nil _ _ _ _ _, rfl⟩
  rw [exV_out]
  go_enter Tryd.func16, Tryd.ntmps16
  go_upto_region 2 with fail
  rw [← hw0]
  clear hw0 ho0
  obtain ⟨n0, hn0⟩ : ∃ n0, n0 = w.heap.size := ⟨_, rfl⟩
  unfold PostM
  rw [← hn0] at E0 Z0 O0 L0 A0 B0 ⊢
  have HB : Hid (n0 = w.heap.size) := hn0
  clear hn0
  go_wp2
  go_loopw [6] (fun v wr => ∃ (done r : Fs) (o : Nat → Nat) (va : Value), Hid (e.kids = done.app r) ∧ v = .int .i64 (done.len : Nat) ∧ Blk wr o 0 n0 (.cells #[.int .i64 e.k, .int .i64 e.n, stv e.nm, .slice ao e.kids.len cap, .int .i64 e.a] 24) ∧ Blk wr o 3 (n0 + 1) (.cells #[.int .i64 0, .int .i64 0, .string ⟨#[]⟩, .slice none 0 0, .int .i64 0] 24) ∧ Blk wr o 1 (n0 + 1 + 1) (.cells #[.int .i64 e.k, .int .i64 e.n, stv e.nm, va, .int .i64 (e.a + (d : Nat))] 24) ∧ AccL wr o n0 (done.mv d) va ∧ Hid (∀ k, k < n0 → o k = 0) ∧ Below n0 w wr) (fun v _ => e.kids.len - (intOf v).toNat)
  case atStart => exact ⟨.nil, e.kids, o0, .slice none 0 0, rfl, by show _ = Value.int .i64 ((0 : Nat) : Int); rfl, E0, Z0, O0, A0, L0, B0⟩
  case round =>
    clear E0 Z0 O0 A0 L0 B0
    obtain ⟨done, r, o, va, hk, rfl, E1, Z1, O1, A1, L1, B1⟩ := hrel
    have hlk : e.kids.len = done.len + r.len := by rw [hk.out, Fs.len_app]
    obtain ⟨p0, p1, p2, p3, p4, pf⟩ := box5 E1.1
    cases r using Fs.on with
    | nil =>
      have hl0 : ¬ (done.len : Int) < (e.kids.len : Int) := by simp only [Fs.len] at hlk; omega
      have hdn : e.kids = done := by rw [hk.out]; clear hk hlk hl0 A1; exact app_nil' done
      have hkd : Hid ((e.mv d).kids = done.mv d) := by show e.kids.mv d = _; rw [hdn]
      obtain ⟨a1, c1, rfl, SL⟩ := A1.sl L1.out
      have hdl : (done.mv d).len = done.len := Fs.len_mv d done
      rw [hdl] at O1
      have SE := SL.mono (w' := ((((wr.setCell ⟨n0 + 1, 0, none⟩ (.int .i64 e.k)).setCell ⟨n0 + 1, 1, none⟩ (.int .i64 e.n)).setCell ⟨n0 + 1, 2, none⟩ (stv e.nm)).setCell ⟨n0 + 1, 3, none⟩ (.slice a1 done.len c1)).setCell ⟨n0 + 1, 4, none⟩ (.int .i64 (e.a + (d : Nat)))) (Q := Nw n0) (fun i hp hl => heap_set5 wr (n0 + 1) i _ _ _ _ _ (fun ee => by
        have h2 := Z1.2
        rw [← ee] at h2
        rcases hp.2 with h | h <;> omega)) (by simp) (fun i hp _ => hp.1)
      have BE := ((((B1.setCell (p := ⟨n0 + 1, 0, none⟩) (Nat.le_succ _) (.int .i64 e.k)).setCell (p := ⟨n0 + 1, 1, none⟩) (Nat.le_succ _) (.int .i64 e.n)).setCell (p := ⟨n0 + 1, 2, none⟩) (Nat.le_succ _) (stv e.nm)).setCell (p := ⟨n0 + 1, 3, none⟩) (Nat.le_succ _) (.slice a1 done.len c1)).setCell (p := ⟨n0 + 1, 4, none⟩) (Nat.le_succ _) (.int .i64 (e.a + (d : Nat)))
      have ZE := set5k (.int .i64 e.k) (.int .i64 e.n) (stv e.nm) (.slice a1 done.len c1) (.int .i64 (e.a + (d : Nat))) Z1.1
      have HU : Hid (∃ wz, wz = ((((wr.setCell ⟨n0 + 1, 0, none⟩ (.int .i64 e.k)).setCell ⟨n0 + 1, 1, none⟩ (.int .i64 e.n)).setCell ⟨n0 + 1, 2, none⟩ (stv e.nm)).setCell ⟨n0 + 1, 3, none⟩ (.slice a1 done.len c1)).setCell ⟨n0 + 1, 4, none⟩ (.int .i64 (e.a + (d : Nat))) ∧ wz.cell? ⟨n0 + 1, 0, none⟩ = some (.int .i64 e.k) ∧ wz.cell? ⟨n0 + 1, 1, none⟩ = some (.int .i64 e.n) ∧ wz.cell? ⟨n0 + 1, 2, none⟩ = some (stv e.nm) ∧ wz.cell? ⟨n0 + 1, 3, none⟩ = some (.slice a1 done.len c1) ∧ wz.cell? ⟨n0 + 1, 4, none⟩ = some (.int .i64 (e.a + (d : Nat))) ∧ Sl wz (Nw n0) (done.mv d) a1 ∧ Below n0 w wz) := by
        obtain ⟨u0, u1, u2, u3, u4, -⟩ := box5 ZE
        exact ⟨_, rfl, u0, u1, u2, u3, u4, SE, BE⟩
      obtain ⟨u0, u1, u2, u3, u4, uf⟩ := box5 O1.1
      obtain ⟨z0, z1, z2, z3, z4, zf⟩ := box5 Z1.1
      clear hlk SL SE BE ZE E1 Z1 O1 L1 B1 hdn hk
      go_wp2
      obtain ⟨wz, hwz, v0, v1, v2, v3, v4, SZ, BZ⟩ := HU.out
      clear HU
      rw [← hwz]
      clear hwz
      have hkl : (Fs.mv d e.kids).len = done.len := by rw [show Fs.mv d e.kids = (e.mv d).kids from rfl, hkd.out, hdl]
      refine bodyPost_ret (v := exV (e.mv d) a1 c1) (by simp [results, Tryd.results16, go_sem, v0, v1, v2, v3, v4, exV, Ex.mv, hkl]) rfl ⟨a1, c1, rfl, by rw [hkd.out, ← HB.out]; exact SZ, by rw [← HB.out]; exact BZ⟩
    | cons kk kn km ka kks kr =>
      have hl0 : (done.len : Int) < (e.kids.len : Int) := by simp only [Fs.len] at hlk; omega
      have hl1 : done.len < e.kids.len := by omega
      have hsz : e.kids.size = done.size + (kks.size + kr.size + 1) := by rw [hk.out, Fs.size_app]; rfl
      have hsk : (Fs.cons kk kn km ka kks kr).short := Fs.app_short (by rw [← hk.out]; exact hsh)
      have hpk : (Fs.cons kk kn km ka kks kr).plc := Fs.app_plc (by rw [← hk.out]; exact hpl)
      have hn0 : n0 ≤ wr.heap.size := by have := E1.lt; omega
      obtain ⟨b, off, ak, ck, hao, lb1, -, x0, x1, x2, x3, x4, SK⟩ := Sl.kidQ (by rw [← hk.out]; exact SlA.below S (by rw [← HB.out]; exact B1))
      subst hao
      obtain ⟨y, hy⟩ : ∃ y, y = Ex.mv d ⟨kk, kn, km, ka, kks⟩ := ⟨_, rfl⟩
      have hc := IH ⟨kk, kn, km, ka, kks⟩ ak ck d wr (by show kks.size < N; omega) hsk.2.1 hsk.2.2.1 hpk.1 hpk.2.1 hpk.2.2.1 hd SK
      rw [exV_out, ← hy] at hc
      simp only at hc
      have hdl : (done.mv d).len = done.len := Fs.len_mv d done
      have hk2 : Hid (e.kids = (done.snoc ⟨kk, kn, km, ka, kks⟩).app kr) := by show e.kids = _; rw [hk.out]; unfold Fs.snoc; rw [Fs.app_assoc]; rfl
      have HS : Hid ((done.snoc ⟨kk, kn, km, ka, kks⟩).mv d = (done.mv d).snoc y) := by show _ = _; rw [hy, Fs.mv_snoc]
      have hl2 : (done.len : Int) + 1 = ((done.snoc ⟨kk, kn, km, ka, kks⟩).len : Nat) := by rw [Fs.len_snoc]; rfl
      clear hlk hsz hsk hpk hy SK
      go_wp2_with fail
      refine hc.mono ?_
      rintro x w6 ⟨ak6, ck6, rfl, S6, b6⟩
      have s6 : Step (fun _ => False) wr o w6 (newLab wr o 0) := ((Step.refl _ wr o).labelled 0).trans (Step.ofB (newLab wr o 0) b6)
      have T6 : Sl w6 (N0 n0 (newLab wr o 0)) y.kids ak6 := S6.mono (fun _ _ _ => rfl) (Nat.le_refl _) (fun i hp hl => ⟨Nat.le_trans hn0 hp, newLab_new hp⟩)
      have L6 : Hid (∀ k, k < n0 → newLab wr o 0 k = 0) := fun k hk => by rw [newLab_old (by omega)]; exact L1.out k hk
      have E6 := E1.step s6 id
      have Z6 := Z1.step s6 id
      have O6 := O1.step s6 id
      have A6 := A1.step s6 id id
      have B6 := below_stepB B1 s6 (fun _ _ => id) (by rw [HB.out]; exact Nat.le_refl _)
      generalize newLab wr o 0 = o6 at *
      clear hc S6 b6 s6 E1 Z1 O1 A1 B1 L1 x0 x1 x2 x3 x4 p0 p1 p2 p3 p4 pf
      have s7 := boxStep (fun _ => False) w6 o6 (.cells #[.int .i64 y.k, .int .i64 y.n, stv y.nm, .slice ak6 y.kids.len ck6, .int .i64 y.a] 24)
      have K7 := boxBlk w6 o6 #[.int .i64 y.k, .int .i64 y.n, stv y.nm, .slice ak6 y.kids.len ck6, .int .i64 y.a] 24
      have T7 := T6.lab s7 id
      have hs6 : n0 ≤ w6.heap.size := by have := E6.lt; omega
      have L7 : Hid (∀ k, k < n0 → newLab w6 o6 0 k = 0) := fun k hk => by rw [newLab_old (by omega)]; exact L6.out k hk
      have E7 := E6.step s7 id
      have Z7 := Z6.step s7 id
      have O7 := O6.step s7 id
      have A7 := A6.step s7 id id
      have B7 := below_stepB B6 s7 (fun _ _ => id) (by rw [HB.out]; exact Nat.le_refl _)
      rw [exV_out]
      go_upto_region 6 with fail
      generalize newLab w6 o6 0 = o7 at *
      generalize w6.alloc (.cells #[.int .i64 y.k, .int .i64 y.n, stv y.nm, .slice ak6 y.kids.len ck6, .int .i64 y.a] 24) = w7 at *
      generalize w6.heap.size = bk at *
      clear s7 T6 E6 Z6 O6 A6 B6 L6
      obtain ⟨p0, p1, p2, p3, p4, pf⟩ := box5 O7.1
      obtain ⟨q0, q1, q2, q3, q4, qf⟩ := box5 K7.1
      have s8 := boxStep (fun _ => False) w7 o7 (.cells #[.int .i64 y.k, .int .i64 y.n, stv y.nm, .slice ak6 y.kids.len ck6, .int .i64 y.a] 24)
      have T8 := T7.lab s8 id
      have L8 : Hid (∀ k, k < n0 → newLab w7 o7 0 k = 0) := fun k hk => by rw [newLab_old (by have := E7.lt; omega)]; exact L7.out k hk
      have E8 := E7.step s8 id
      have Z8 := Z7.step s8 id
      have O8 := O7.step s8 id
      have A8 := A7.step s8 id id
      have B8 := below_stepB B7 s8 (fun _ _ => id) (by rw [HB.out]; exact Nat.le_refl _)
      obtain ⟨xs, R8, F8⟩ := A8
      rw [hdl] at R8
      obtain ⟨a8, c8, rfl⟩ := R8.form
      have b1 : done.len + 1 ≤ maxLen := by unfold maxLen; omega
      have b2 : (done.len + 1) * 64 ≤ 140737488355328 := by omega
      have hone : ∀ u ∈ [Value.int .i64 y.k, .int .i64 y.n, stv y.nm, .slice ak6 y.kids.len ck6, .int .i64 y.a], u.oneCell' = true := by intro u hu; simp at hu; rcases hu with rfl | rfl | rfl | rfl | rfl <;> rfl
      clear E7 Z7 O7 A7 B7 L7 T7 s8
      go_wp2_with (first | (at_builtin; refine wpList_append_lab rfl (.tmp 34) (.tmp 36) 22 rfl 24 ii _ 5 64 Tryd.underlying22 hii hzi0 hzi1 hzi2 rfl (by decide) (newLab w7 o7 0) 2 _ done.len xs rfl R8 ⟨w7.heap.size, 0, none⟩ 1 1 [Value.int .i64 y.k, .int .i64 y.n, stv y.nm, .slice ak6 y.kids.len ck6, .int .i64 y.a] rfl rfl (new_cells_at w7 _ _) hone (by decide) b1 b2 ?_) | go_in)
      intro g9 c9 w9 o9 r9 s9
      have A9 : AccL w9 o9 n0 ((done.mv d).snoc y) (.slice (some ⟨g9, 0, none⟩) (done.len + 1) c9) := AccL.push F8 T8 s9 (by rw [hdl]; exact r9)
      have E9 := E8.step s9 (by decide)
      have Z9 := Z8.step s9 (by decide)
      have O9 := O8.step s9 (by decide)
      have L9 : Hid (∀ k, k < n0 → o9 k = 0) := fun k hk => (s9.lab k (by have := E8.lt; omega)).trans (L8.out k hk)
      have B9 := below_stepB B8 s9 (fun k hk => by rw [L8.out k hk]; decide) (by rw [HB.out]; exact Nat.le_refl _)
      have s10 : Step (fun k => k = 1) w9 o9 (w9.setCell ⟨n0 + 1 + 1, 3, none⟩ (.slice (some ⟨g9, 0, none⟩) (done.len + 1) c9)) o9 := setStep _ w9 o9 ⟨n0 + 1 + 1, 3, none⟩ _ O9.2
      have A10 := A9.step s10 (by decide) (by decide)
      have E10 := E9.step s10 (by decide)
      have Z10 := Z9.step s10 (by decide)
      have O10 := O9.set 3 (.slice (some ⟨g9, 0, none⟩) (done.len + 1) c9)
      have B10 := below_stepB B9 s10 (fun k hk => by rw [L9.out k hk]; decide) (by rw [HB.out]; exact Nat.le_refl _)
      obtain ⟨t0, t1, t2, t3, t4, tf⟩ := box5 O9.1
      rw [← HS.out] at A10
      clear A9 E9 Z9 O9 B9 s10 E8 Z8 O8 B8 L8 T8 R8 F8 r9 s9 p0 p1 p2 p3 p4 pf q0 q1 q2 q3 q4 qf hk HS K7
      go_wp2
      go_roundw
      case rel => exact ⟨_, kr, o9, _, hk2, by rw [← hl2], E10, Z10, O10, A10, L9, B10⟩
      case measure => simp [intOf]; omega
theorem moves_ok : ∀ N, MovesOk N
  | 0 => fun e ao cap d w h => absurd h (Nat.not_lt_zero _)
  | N + 1 => moves_step (moves_ok N)
end Go.Proofs.YtlmeonpdjcophaaDoor
