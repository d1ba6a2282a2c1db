/- Are two trees the same but for their places? Same of package syntax. -/
import Derived.Test.YtlmeonpdjcophaaDoorMovA
namespace Go.Proofs.YtlmeonpdjcophaaDoor
open Go.ChangeShapes Go.WideShapes Go.ChangeAt Go.RowKit
set_option linter.unusedVariables false
set_option linter.unusedSimpArgs false

/-- Alike but for places. -/
def sameF : Fs → Fs → Bool
  | ⟨none⟩, ⟨none⟩ => true
  | ⟨some ⟨k, n, nm, _, ks, r⟩⟩, ⟨some ⟨k', n', nm', _, ks', r'⟩⟩ => k == k' && n == n' && nm == nm' && sameF ks ks' && sameF r r'
  | _, _ => false
def sameE (a b : Ex) : Bool := a.k == b.k && a.n == b.n && a.nm == b.nm && sameF a.kids b.kids
theorem sameF_len : ∀ (x y : Fs), x.len ≠ y.len → sameF x y = false
  | ⟨none⟩, ⟨none⟩, h => absurd rfl h
  | ⟨none⟩, ⟨some ⟨k', n', nm', a', ks', r'⟩⟩, h => rfl
  | ⟨some ⟨k, n, nm, a, ks, r⟩⟩, ⟨none⟩, h => rfl
  | ⟨some ⟨k, n, nm, a, ks, r⟩⟩, ⟨some ⟨k', n', nm', a', ks', r'⟩⟩, h => by
    have h2 : r.len ≠ r'.len := fun e => h (by simp only [Fs.len, e])
    simp only [sameF, sameF_len r r' h2, Bool.and_false]
theorem sameF_self : ∀ (x : Fs), sameF x x = true
  | ⟨none⟩ => rfl
  | ⟨some ⟨k, n, nm, a, ks, r⟩⟩ => by simp [sameF, sameF_self ks, sameF_self r]
theorem sameF_cons (k n : Int) (nm : List UInt8) (a : Int) (ks r : Fs) (k' n' : Int) (nm' : List UInt8) (a' : Int) (ks' r' : Fs) : sameF (.cons k n nm a ks r) (.cons k' n' nm' a' ks' r') = (sameE ⟨k, n, nm, a, ks⟩ ⟨k', n', nm', a', ks'⟩ && sameF r r') := rfl
def SameOk (N : Nat) : Prop := ∀ (e e2 : Ex) (ao ao2 : Option Addr) (cap cap2 : Nat) (w : World), e.kids.size < N → e.kids.len ≤ 1000000000 → e.kids.short → e2.kids.len ≤ 1000000000 → e2.kids.short → SlA w e.kids ao → SlA w e2.kids ao2 →
  Calls Tryd.prog 9 #[exV e ao cap, exV e2 ao2 cap2] w fun x w' => x = .returned (.bool (sameE e e2)) ∧ Below w.heap.size w w'
def EqOk (N : Nat) : Prop := ∀ (f g : Fs) (ao ao2 : Option Addr) (cap cap2 : Nat) (w : World), f.size ≤ N → f.len ≤ 1000000000 → f.short → g.len ≤ 1000000000 → g.short → SlA w f ao → SlA w g ao2 →
  Calls Tryd.prog 18 #[.slice ao f.len cap, .slice ao2 g.len cap2, .func (.func 9) #[] #[]] w fun x w' => x = .returned (.bool (sameF f g)) ∧ Below w.heap.size w w'
set_option maxRecDepth 100000 in
set_option maxHeartbeats 1000000 in
theorem eq_of {N : Nat} (H : SameOk N) : EqOk N := by
  intro f g ao ao2 cap cap2 w hN hlen hsh hlen2 hsh2 S S2
  obtain ⟨W, hW⟩ : ∃ W, W = sameF f g := ⟨_, rfl⟩
  rw [← hW]
  have HW : Hid (W = sameF f g) := hW
  clear hW
  go_enter Tryd.func18, Tryd.ntmps18
  by_cases hl : f.len = g.len
  · have hI : ((f.len : Int) != (g.len : Int)) = false := by rw [hl]; simp
    have hIe : ((f.len : Int) == (g.len : Int)) = true := by rw [hl]; simp
    have HL : Hid (f.len = g.len) := hl
    clear hl
    go_wp2
    go_loopw [17] (fun v wr => ∃ (d r d2 r2 : Fs), Hid (f = d.app r) ∧ Hid (g = d2.app r2) ∧ Hid (d2.len = d.len) ∧ v = .int .i64 (d.len : Nat) ∧ Hid (sameF r r2 = W) ∧ Below w.heap.size w wr) (fun v _ => f.len - (intOf v).toNat)
    case atStart => exact ⟨.nil, f, .nil, g, rfl, rfl, rfl, by show _ = Value.int .i64 ((0 : Nat) : Int); rfl, HW.out.symm, Below.refl _ _⟩
    case round =>
      obtain ⟨d, r, d2, r2, hf, hg, hd, rfl, HA, B1⟩ := hrel
      have hlf : f.len = d.len + r.len := by rw [hf.out, Fs.len_app]
      have hlg : g.len = d2.len + r2.len := by rw [hg.out, Fs.len_app]
      have hrr : r.len = r2.len := by have := HL.out; have := hd.out; omega
      have HRR : Hid (r.len = r2.len) := hrr
      clear HW hlg hrr hI hIe
      cases r using Fs.on with
      | nil =>
        have hl0 : ¬ (d.len : Int) < (f.len : Int) := by simp only [Fs.len] at hlf; omega
        have FIN : Hid (W = true) := by
          show W = true
          rw [← HA.out]
          cases r2 using Fs.on with
          | nil => rfl
          | cons k n nm a ks r => have := HRR.out; simp only [Fs.len] at this; omega
        clear HA hlf HRR
        go_wp2
        go_ret
        rw [FIN.out]
        exact ⟨rfl, B1⟩
      | cons kk kn km ka kks kr =>
        cases r2 using Fs.on with
        | nil => have := HRR.out; simp only [Fs.len] at this; omega
        | cons jk jn jm ja jks jr =>
        have hl0 : (d.len : Int) < (f.len : Int) := by simp only [Fs.len] at hlf; omega
        have hl1 : d.len < f.len := by omega
        have hl2 : d.len < g.len := by have := HL.out; omega
        have hl3 : (d.len : Int) < (g.len : Int) := by omega
        have hsz : f.size = d.size + (kks.size + kr.size + 1) := by rw [hf.out, Fs.size_app]; rfl
        have hsk : (Fs.cons kk kn km ka kks kr).short := Fs.app_short (by rw [← hf.out]; exact hsh)
        have hsj : (Fs.cons jk jn jm ja jks jr).short := Fs.app_short (by rw [← hg.out]; exact hsh2)
        obtain ⟨b, off, ak, ck, hao, lb1, -, x0, x1, x2, x3, x4, SK⟩ := Sl.kidQ (by rw [← hf.out]; exact SlA.below S B1)
        obtain ⟨b', off', aj, cj, hao', lb2, -, y0, y1, y2, y3, y4, TK⟩ := Sl.kidQ (by rw [← hg.out]; exact SlA.below S2 B1)
        subst hao hao'
        rw [hd.out] at y0 y1 y2 y3 y4
        have b2 : Below wr.heap.size wr (wr.alloc (.cells #[.int .i64 kk, .int .i64 kn, stv km, .slice ak kks.len ck, .int .i64 ka] 24)) := (Below.refl _ wr).alloc (Nat.le_refl _) _
        have K2 : (wr.alloc (.cells #[.int .i64 kk, .int .i64 kn, stv km, .slice ak kks.len ck, .int .i64 ka] 24)).heap[wr.heap.size]? = some (.cells #[.int .i64 kk, .int .i64 kn, stv km, .slice ak kks.len ck, .int .i64 ka] 24) := heap_alloc_new wr _
        have B2 := B1.trans (b2.mono B1.size)
        have z0 := (b2.cell (p := ⟨b', off' + d.len * 5, none⟩) lb2).trans y0
        have z1 := (b2.cell (p := ⟨b', off' + d.len * 5 + 1, none⟩) lb2).trans y1
        have z2 := (b2.cell (p := ⟨b', off' + d.len * 5 + 2, none⟩) lb2).trans y2
        have z3 := (b2.cell (p := ⟨b', off' + d.len * 5 + 3, none⟩) lb2).trans y3
        have z4 := (b2.cell (p := ⟨b', off' + d.len * 5 + 4, none⟩) lb2).trans y4
        have SK2 := SlA.below SK b2
        have TK2 := SlA.below TK b2
        clear y0 y1 y2 y3 y4 hlf
        go_upto_region 6 with fail
        generalize wr.alloc (.cells #[.int .i64 kk, .int .i64 kn, stv km, .slice ak kks.len ck, .int .i64 ka] 24) = w2 at *
        generalize wr.heap.size = bk at *
        clear x0 x1 x2 x3 x4 b2 SK TK B1
        have b3 : Below w2.heap.size w2 (w2.alloc (.cells #[.int .i64 jk, .int .i64 jn, stv jm, .slice aj jks.len cj, .int .i64 ja] 24)) := (Below.refl _ w2).alloc (Nat.le_refl _) _
        have J3 : (w2.alloc (.cells #[.int .i64 jk, .int .i64 jn, stv jm, .slice aj jks.len cj, .int .i64 ja] 24)).heap[w2.heap.size]? = some (.cells #[.int .i64 jk, .int .i64 jn, stv jm, .slice aj jks.len cj, .int .i64 ja] 24) := heap_alloc_new w2 _
        have K3 := (b3.block _ (lt_of_block K2)).trans K2
        have B3 := B2.trans (b3.mono B2.size)
        have SK3 := SlA.below SK2 b3
        have TK3 := SlA.below TK2 b3
        go_upto_region 7 with fail
        generalize w2.alloc (.cells #[.int .i64 jk, .int .i64 jn, stv jm, .slice aj jks.len cj, .int .i64 ja] 24) = w3 at *
        generalize w2.heap.size = bj at *
        clear z0 z1 z2 z3 z4 b3 SK2 TK2 B2 K2
        obtain ⟨p0, p1, p2, p3, p4, pf⟩ := box5 K3
        obtain ⟨q0, q1, q2, q3, q4, qf⟩ := box5 J3
        have c4 := H ⟨kk, kn, km, ka, kks⟩ ⟨jk, jn, jm, ja, jks⟩ ak aj ck cj w3 (by show kks.size < N; omega) hsk.2.1 hsk.2.2.1 hsj.2.1 hsj.2.2.1 SK3 TK3
        rw [exV_out, exV_out] at c4
        simp only at c4
        have HA2 : Hid ((sameE ⟨kk, kn, km, ka, kks⟩ ⟨jk, jn, jm, ja, jks⟩ && sameF kr jr) = W) := HA
        have hf2 : Hid (f = (d.snoc ⟨kk, kn, km, ka, kks⟩).app kr) := by show f = _; rw [hf.out]; unfold Fs.snoc; rw [Fs.app_assoc]; rfl
        have hg2 : Hid (g = (d2.snoc ⟨jk, jn, jm, ja, jks⟩).app jr) := by show g = _; rw [hg.out]; unfold Fs.snoc; rw [Fs.app_assoc]; rfl
        have hd2 : Hid ((d2.snoc ⟨jk, jn, jm, ja, jks⟩).len = (d.snoc ⟨kk, kn, km, ka, kks⟩).len) := by show _ = _; rw [Fs.len_snoc, Fs.len_snoc, hd.out]
        have hl4 : (d.len : Int) + 1 = ((d.snoc ⟨kk, kn, km, ka, kks⟩).len : Nat) := by rw [Fs.len_snoc]; rfl
        generalize sameE ⟨kk, kn, km, ka, kks⟩ ⟨jk, jn, jm, ja, jks⟩ = cc at *
        clear HA hf hg hd hsz hsk hsj SK3 TK3 K3 J3
        go_wp2_with fail
        refine c4.mono ?_
        rintro x w4 ⟨rfl, b4⟩
        have B4 := B3.trans (b4.mono B3.size)
        clear c4 p0 p1 p2 p3 p4 pf q0 q1 q2 q3 q4 qf b4 B3
        cases cc with
        | false =>
          have FIN : Hid (W = false) := by show W = _; rw [← HA2.out]; rfl
          clear HA2
          go_wp2
          go_ret
          rw [FIN.out]
          exact ⟨rfl, B4⟩
        | true =>
          have HA3 : Hid (sameF kr jr = W) := by show _ = W; rw [← HA2.out]; rfl
          clear HA2
          go_wp2
          go_roundw
          case rel => exact ⟨_, kr, _, jr, hf2, hg2, hd2, by rw [← hl4], HA3, B4⟩
          case measure => simp [intOf]; omega
  · have hI : ((f.len : Int) != (g.len : Int)) = true := by simp; omega
    have hI2 : ¬ (f.len : Int) = (g.len : Int) := by omega
    have FIN : Hid (W = false) := by show W = _; rw [HW.out]; exact sameF_len f g hl
    clear HW
    go_wp2
    go_ret
    rw [FIN.out]
    exact ⟨rfl, Below.refl _ _⟩
set_option maxRecDepth 100000 in
set_option maxHeartbeats 1000000 in
theorem same_step {N : Nat} (IH : SameOk N) : SameOk (N + 1) := by
  intro e e2 ao ao2 cap cap2 w hN hlen hsh hlen2 hsh2 S S2
  obtain ⟨W, hW⟩ : ∃ W, W = sameE e e2 := ⟨_, rfl⟩
  rw [← hW]
  have HW : Hid (W = sameE e e2) := hW
  clear hW
  have B0 : Below w.heap.size w ((w.alloc (.cells #[.int .i64 e.k, .int .i64 e.n, stv e.nm, .slice ao e.kids.len cap, .int .i64 e.a] 24)).alloc (.cells #[.int .i64 e2.k, .int .i64 e2.n, stv e2.nm, .slice ao2 e2.kids.len cap2, .int .i64 e2.a] 24)) := ((Below.refl _ w).alloc (Nat.le_refl _) _).alloc (by simp) _
  have E0 : ((w.alloc (.cells #[.int .i64 e.k, .int .i64 e.n, stv e.nm, .slice ao e.kids.len cap, .int .i64 e.a] 24)).alloc (.cells #[.int .i64 e2.k, .int .i64 e2.n, stv e2.nm, .slice ao2 e2.kids.len cap2, .int .i64 e2.a] 24)).heap[w.heap.size]? = some (.cells #[.int .i64 e.k, .int .i64 e.n, stv e.nm, .slice ao e.kids.len cap, .int .i64 e.a] 24) := (Below.heap_alloc _ _ _ (by simp)).trans (heap_alloc_new w _)
  have Y0 : ((w.alloc (.cells #[.int .i64 e.k, .int .i64 e.n, stv e.nm, .slice ao e.kids.len cap, .int .i64 e.a] 24)).alloc (.cells #[.int .i64 e2.k, .int .i64 e2.n, stv e2.nm, .slice ao2 e2.kids.len cap2, .int .i64 e2.a] 24)).heap[w.heap.size + 1]? = some (.cells #[.int .i64 e2.k, .int .i64 e2.n, stv e2.nm, .slice ao2 e2.kids.len cap2, .int .i64 e2.a] 24) := by
    have := heap_alloc_new (w.alloc (.cells #[.int .i64 e.k, .int .i64 e.n, stv e.nm, .slice ao e.kids.len cap, .int .i64 e.a] 24)) (.cells #[.int .i64 e2.k, .int .i64 e2.n, stv e2.nm, .slice ao2 e2.kids.len cap2, .int .i64 e2.a] 24)
    simpa using this
  have S0 := SlA.below S B0
  have T0 := SlA.below S2 B0
  rw [exV_out, exV_out]
  go_enter Tryd.func9, Tryd.ntmps9
  go_upto_region 1 with fail
  generalize (w.alloc (.cells #[.int .i64 e.k, .int .i64 e.n, stv e.nm, .slice ao e.kids.len cap, .int .i64 e.a] 24)).alloc (.cells #[.int .i64 e2.k, .int .i64 e2.n, stv e2.nm, .slice ao2 e2.kids.len cap2, .int .i64 e2.a] 24) = w0 at *
  obtain ⟨bx, hbx⟩ : ∃ bx, bx = w.heap.size := ⟨_, rfl⟩
  rw [← hbx] at E0 Y0 B0 ⊢
  have HB : Hid (bx = w.heap.size) := hbx
  clear hbx S S2
  obtain ⟨p0, p1, p2, p3, p4, pf⟩ := box5 E0
  obtain ⟨q0, q1, q2, q3, q4, qf⟩ := box5 Y0
  by_cases h1 : e.k = e2.k
  · have h1b : (e.k == e2.k) = true := by simp [h1]
    by_cases h2 : e.n = e2.n
    · have h2b : (e.n == e2.n) = true := by simp [h2]
      by_cases h3 : e.nm = e2.nm
      · have h3b : (e.nm == e2.nm) = true := by simp [h3]
        have HF : Hid (W = sameF e.kids e2.kids) := by show W = _; rw [HW.out]; simp [sameE, h1, h2, h3]
        have c1 := eq_of IH e.kids e2.kids ao ao2 cap cap2 w0 (by omega) hlen hsh hlen2 hsh2 S0 T0
        clear HW h1 h2 h3
        go_wp2_with fail
        refine c1.mono ?_
        rintro x w1 ⟨rfl, b1⟩
        have B1 := B0.trans (b1.mono (by rw [HB.out]; exact B0.size))
        clear c1 p0 p1 p2 p3 p4 pf q0 q1 q2 q3 q4 qf
        rw [← HF.out]
        go_wp2
        go_ret
        exact ⟨rfl, by rw [← HB.out]; exact B1⟩
      · have h3b : (e.nm == e2.nm) = false := by simpa using h3
        have FIN : Hid (W = false) := by show W = _; rw [HW.out]; simp [sameE, h3]
        clear HW h1 h2 h3
        go_wp2
        go_ret
        rw [FIN.out]
        exact ⟨rfl, by rw [← HB.out]; exact B0⟩
    · have h2b : (e.n == e2.n) = false := by simpa using h2
      have FIN : Hid (W = false) := by show W = _; rw [HW.out]; simp [sameE, h2]
      clear HW h1
      go_wp2
      go_ret
      rw [FIN.out]
      exact ⟨rfl, by rw [← HB.out]; exact B0⟩
  · have h1b : (e.k == e2.k) = false := by simpa using h1
    have FIN : Hid (W = false) := by show W = _; rw [HW.out]; simp [sameE, h1]
    clear HW
    go_wp2
    go_ret
    rw [FIN.out]
    exact ⟨rfl, by rw [← HB.out]; exact B0⟩
theorem same_ok : ∀ N, SameOk N
  | 0 => fun e e2 ao ao2 cap cap2 w h => absurd h (Nat.not_lt_zero _)
  | N + 1 => same_step (same_ok N)
end Go.Proofs.YtlmeonpdjcophaaDoor
