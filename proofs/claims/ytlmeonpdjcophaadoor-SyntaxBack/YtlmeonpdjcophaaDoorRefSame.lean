/- Are two trees the same but for their places? Same of package isthmusref12. -/
import Derived.Test.YtlmeonpdjcophaaDoorMovA
import Derived.Test.YtlmeonpdjcophaaDoorSameA
namespace Go.Proofs.YtlmeonpdjcophaaDoor
open Go.ChangeShapes Go.WideShapes Go.ChangeAt Go.RowKit
set_option linter.unusedVariables false
set_option linter.unusedSimpArgs false

/-- A count down by parts. -/
def wgF : Fs → Int → Int
  | ⟨none⟩, l => l
  | ⟨some ⟨_, _, _, _, ks, r⟩⟩, l => if l < 0 then l else wgF r (wgF ks (l - 1))
theorem wgF_cons (k n : Int) (nm : List UInt8) (a : Int) (ks r : Fs) (l : Int) : wgF (.cons k n nm a ks r) l = if l < 0 then l else wgF r (wgF ks (l - 1)) := rfl
theorem wgF_neg : ∀ (f : Fs) (l : Int), l < 0 → wgF f l = l
  | ⟨none⟩, l, h => rfl
  | ⟨some ⟨k, n, nm, a, ks, r⟩⟩, l, h => by simp only [wgF, h, if_true]
theorem wgF_size : ∀ (f : Fs) (l : Int), 0 ≤ wgF f l → wgF f l = l - (f.size : Nat)
  | ⟨none⟩, l, h => by show l = l - ((0 : Nat) : Int); omega
  | ⟨some ⟨k, n, nm, a, ks, r⟩⟩, l, h => by
    have e : wgF ⟨some ⟨k, n, nm, a, ks, r⟩⟩ l = if l < 0 then l else wgF r (wgF ks (l - 1)) := rfl
    rw [e] at h ⊢
    split at h
    · omega
    · rename_i hl
      rw [if_neg hl]
      have h1 := wgF_size r _ h
      by_cases h2 : wgF ks (l - 1) < 0
      · rw [wgF_neg r _ h2] at h
        omega
      · have h3 := wgF_size ks (l - 1) (by omega)
        show _ = l - ((ks.size + r.size + 1 : Nat) : Int)
        omega
theorem wgF_le : ∀ (f : Fs) (l : Int), -1 ≤ l → -1 ≤ wgF f l ∧ wgF f l ≤ l
  | ⟨none⟩, l, h => ⟨h, Int.le_refl _⟩
  | ⟨some ⟨k, n, nm, a, ks, r⟩⟩, l, h => by
    have e : wgF ⟨some ⟨k, n, nm, a, ks, r⟩⟩ l = if l < 0 then l else wgF r (wgF ks (l - 1)) := rfl
    rw [e]
    split
    · exact ⟨h, Int.le_refl _⟩
    · have h1 := wgF_le ks (l - 1) (by omega)
      have h2 := wgF_le r _ h1.1
      exact ⟨h2.1, by omega⟩
def heavyB (e : Ex) : Bool := decide (wgF e.kids 19999 < 0)
theorem light {e : Ex} (h : heavyB e = false) : e.kids.size ≤ 19999 := by
  have h1 : ¬ wgF e.kids 19999 < 0 := by simpa [heavyB] using h
  have := wgF_size e.kids 19999 (by omega)
  omega
/-- Lists are no longer than a slice may be. -/
def Fs.wide : Fs → Prop
  | ⟨none⟩ => True
  | ⟨some ⟨_, _, _, _, ks, r⟩⟩ => ks.len ≤ maxLen ∧ ks.wide ∧ r.wide
theorem Fs.app_wide : ∀ {x y : Fs}, (x.app y).wide → y.wide
  | ⟨none⟩, y, h => h
  | ⟨some ⟨k, n, nm, a, ks, r⟩⟩, y, h => Fs.app_wide (x := r) h.2.2
def WeighOk (N : Nat) : Prop := ∀ (e : Ex) (ao : Option Addr) (cap : Nat) (l : Int) (w : World), e.kids.size < N → e.kids.len ≤ maxLen → e.kids.wide → 0 ≤ l → l ≤ 1000000 → SlA w e.kids ao →
  Calls Tryd.prog 17 #[exV e ao cap, .int .i64 l] w fun x w' => x = .returned (.int .i64 (wgF e.kids (l - 1))) ∧ Below w.heap.size w w'
set_option maxRecDepth 100000 in
set_option maxHeartbeats 1000000 in
theorem weigh_step {N : Nat} (IH : WeighOk N) : WeighOk (N + 1) := by
  intro e ao cap l w hN hlen hwd hl0 hl1 S
  obtain ⟨W, hW⟩ : ∃ W, W = wgF e.kids (l - 1) := ⟨_, rfl⟩
  rw [← hW]
  have HW : Hid (W = wgF e.kids (l - 1)) := hW
  have hml : Hid (maxLen = 9223372036854775807) := rfl
  have hlm : e.kids.len ≤ 9223372036854775807 := by have := hml.out; omega
  clear hW
  have B0 : Below w.heap.size w (w.alloc (.cells #[.int .i64 e.k, .int .i64 e.n, stv e.nm, .slice ao e.kids.len cap, .int .i64 e.a] 24)) := (Below.refl _ w).alloc (Nat.le_refl _) _
  have E0 : (w.alloc (.cells #[.int .i64 e.k, .int .i64 e.n, stv e.nm, .slice ao e.kids.len cap, .int .i64 e.a] 24)).heap[w.heap.size]? = some (.cells #[.int .i64 e.k, .int .i64 e.n, stv e.nm, .slice ao e.kids.len cap, .int .i64 e.a] 24) := heap_alloc_new w _
  rw [exV_out]
  go_enter Tryd.func17, Tryd.ntmps17
  go_upto_region 1 with fail
  generalize w.alloc (.cells #[.int .i64 e.k, .int .i64 e.n, stv e.nm, .slice ao e.kids.len cap, .int .i64 e.a] 24) = w0 at *
  obtain ⟨bx, hbx⟩ : ∃ bx, bx = w.heap.size := ⟨_, rfl⟩
  rw [← hbx] at E0 B0 ⊢
  have HB : Hid (bx = w.heap.size) := hbx
  clear hbx
  go_wp2
  go_loopw [1, 5] (fun v1 v5 wr => ∃ (done r : Fs) (c : Int), Hid (e.kids = done.app r) ∧ v1 = .int .i64 c ∧ v5 = .int .i64 (done.len : Nat) ∧ -1 ≤ c ∧ c ≤ 1000000 ∧ Hid (wgF r c = W) ∧ wr.heap[bx]? = some (.cells #[.int .i64 e.k, .int .i64 e.n, stv e.nm, .slice ao e.kids.len cap, .int .i64 e.a] 24) ∧ Below bx w wr) (fun _ v5 _ => e.kids.len - (intOf v5).toNat)
  case atStart => exact ⟨.nil, e.kids, l - 1, rfl, rfl, by show _ = Value.int .i64 ((0 : Nat) : Int); rfl, by omega, by omega, HW.out.symm, E0, B0⟩
  case round =>
    clear E0 B0 HW
    obtain ⟨done, r, c, hk, rfl, rfl, hc0, hc1, HA, E1, B1⟩ := hrel
    have hlk : e.kids.len = done.len + r.len := by rw [hk.out, Fs.len_app]
    obtain ⟨p0, p1, p2, p3, p4, pf⟩ := box5 E1
    cases r using Fs.on with
    | nil =>
      have hlt : ¬ (done.len : Int) < (e.kids.len : Int) := by simp only [Fs.len] at hlk; omega
      have FIN : Hid (W = c) := HA.out.symm
      clear HA hlk
      go_wp2
      go_ret
      rw [FIN.out]
      exact ⟨rfl, by rw [← HB.out]; exact B1⟩
    | cons kk kn km ka kks kr =>
      have hlt : (done.len : Int) < (e.kids.len : Int) := by simp only [Fs.len] at hlk; omega
      have hl3 : done.len < e.kids.len := by omega
      by_cases hc : c < 0
      · have hcI : ¬ (0 : Int) ≤ c := by omega
        have FIN : Hid (W = c) := by show W = c; rw [← HA.out]; exact wgF_neg _ _ hc
        clear HA hlk
        go_wp2
        go_ret
        rw [FIN.out]
        exact ⟨rfl, by rw [← HB.out]; exact B1⟩
      · have hcI : (0 : Int) ≤ c := by omega
        have hsz : e.kids.size = done.size + (kks.size + kr.size + 1) := by rw [hk.out, Fs.size_app]; rfl
        have hwk : (Fs.cons kk kn km ka kks kr).wide := Fs.app_wide (x := done) (by rw [← hk.out]; exact hwd)
        obtain ⟨b, off, ak, ck, hao, lb1, -, x0, x1, x2, x3, x4, SK⟩ := Sl.kidQ (by rw [← hk.out]; exact SlA.below S (by rw [← HB.out]; exact B1))
        subst hao
        have hcc := IH ⟨kk, kn, km, ka, kks⟩ ak ck c wr (by show kks.size < N; omega) hwk.1 hwk.2.1 hcI (by omega) SK
        rw [exV_out] at hcc
        simp only at hcc
        have hbd := wgF_le kks (c - 1) (by omega)
        have HA2 : Hid (wgF kr (wgF kks (c - 1)) = W) := by show _ = W; rw [← HA.out, wgF_cons, if_neg hc]
        have hk2 : Hid (e.kids = (done.snoc ⟨kk, kn, km, ka, kks⟩).app kr) := by show e.kids = _; rw [hk.out]; unfold Fs.snoc; rw [Fs.app_assoc]; rfl
        have hl2 : (done.len : Int) + 1 = ((done.snoc ⟨kk, kn, km, ka, kks⟩).len : Nat) := by rw [Fs.len_snoc]; rfl
        generalize wgF kks (c - 1) = c2 at *
        clear HA hlk hsz hwk SK hk
        go_wp2_with fail
        refine hcc.mono ?_
        rintro x w2 ⟨rfl, b2⟩
        have B2 := B1.trans (b2.mono (by have := lt_of_block E1; omega))
        have E2 := (b2.block bx (lt_of_block E1)).trans E1
        clear hcc x0 x1 x2 x3 x4 p0 p1 p2 p3 p4 pf b2 E1 B1
        go_wp2
        go_roundw
        case rel => exact ⟨_, kr, c2, hk2, rfl, by rw [← hl2], hbd.1, by omega, HA2, E2, B2⟩
        case measure => simp [intOf]; omega
theorem weigh_ok : ∀ N, WeighOk N
  | 0 => fun e ao cap l w h => absurd h (Nat.not_lt_zero _)
  | N + 1 => weigh_step (weigh_ok N)
set_option maxRecDepth 100000 in
theorem heavy_r (e : Ex) (ao : Option Addr) (cap : Nat) (w : World) (hlen : e.kids.len ≤ maxLen) (hwd : e.kids.wide) (S : SlA w e.kids ao) :
    Calls Tryd.prog 7 #[exV e ao cap] w fun x w' => x = .returned (.bool (heavyB e)) ∧ Below w.heap.size w w' := by
  have B0 : Below w.heap.size w (w.alloc (.cells #[.int .i64 e.k, .int .i64 e.n, stv e.nm, .slice ao e.kids.len cap, .int .i64 e.a] 24)) := (Below.refl _ w).alloc (Nat.le_refl _) _
  have hs0 := B0.size
  have c1 := weigh_ok (e.kids.size + 1) e ao cap 20000 _ (by omega) hlen hwd (by omega) (by omega) (SlA.below S B0)
  rw [exV_out] at c1 ⊢
  have e1 : (20000 : Int) - 1 = 19999 := rfl
  rw [e1] at c1
  unfold heavyB
  generalize wgF e.kids 19999 = r at *
  go_enter Tryd.func7, Tryd.ntmps7
  go_wp2_with fail
  refine c1.mono ?_
  rintro x w1 ⟨rfl, b1⟩
  have B1 := B0.trans (b1.mono hs0)
  clear c1 b1 B0 hs0 e1
  go_wp2
  go_ret
  exact ⟨rfl, B1⟩
end Go.Proofs.YtlmeonpdjcophaaDoor
namespace Go.Proofs.YtlmeonpdjcophaaDoor
open Go.ChangeShapes Go.WideShapes Go.ChangeAt Go.RowKit
set_option linter.unusedVariables false
set_option linter.unusedSimpArgs false

def RefSameOk (N : Nat) : Prop := ∀ (e e2 : Ex) (ao ao2 : Option Addr) (cap cap2 : Nat) (w : World), e.kids.size < N → e.kids.len ≤ 1000000000 → e.kids.short → e2.kids.len ≤ 1000000000 → e2.kids.short → SlA w e.kids ao → SlA w e2.kids ao2 →
  Calls Tryd.prog 10 #[exV e ao cap, exV e2 ao2 cap2] w fun x w' => x = .returned (.bool (sameE e e2)) ∧ Below w.heap.size w w'
set_option maxRecDepth 100000 in
set_option maxHeartbeats 2000000 in
theorem refsame_step {N : Nat} (IH : RefSameOk N) : RefSameOk (N + 1) := by
  intro e e2 ao ao2 cap cap2 w hN hlen hsh hlen2 hsh2 S S2
  obtain ⟨W, hW⟩ : ∃ W, W = sameE e e2 := ⟨_, rfl⟩
  rw [← hW]
  have HW : Hid (W = sameE e e2) := hW
  clear hW
  have B0 : Below w.heap.size w ((w.alloc (.cells #[.int .i64 e.k, .int .i64 e.n, stv e.nm, .slice ao e.kids.len cap, .int .i64 e.a] 24)).alloc (.cells #[.int .i64 e2.k, .int .i64 e2.n, stv e2.nm, .slice ao2 e2.kids.len cap2, .int .i64 e2.a] 24)) := ((Below.refl _ w).alloc (Nat.le_refl _) _).alloc (by simp) _
  have E0 : ((w.alloc (.cells #[.int .i64 e.k, .int .i64 e.n, stv e.nm, .slice ao e.kids.len cap, .int .i64 e.a] 24)).alloc (.cells #[.int .i64 e2.k, .int .i64 e2.n, stv e2.nm, .slice ao2 e2.kids.len cap2, .int .i64 e2.a] 24)).heap[w.heap.size]? = some (.cells #[.int .i64 e.k, .int .i64 e.n, stv e.nm, .slice ao e.kids.len cap, .int .i64 e.a] 24) := (Below.heap_alloc _ _ _ (by simp)).trans (heap_alloc_new w _)
  have Y0 : ((w.alloc (.cells #[.int .i64 e.k, .int .i64 e.n, stv e.nm, .slice ao e.kids.len cap, .int .i64 e.a] 24)).alloc (.cells #[.int .i64 e2.k, .int .i64 e2.n, stv e2.nm, .slice ao2 e2.kids.len cap2, .int .i64 e2.a] 24)).heap[w.heap.size + 1]? = some (.cells #[.int .i64 e2.k, .int .i64 e2.n, stv e2.nm, .slice ao2 e2.kids.len cap2, .int .i64 e2.a] 24) := by
    have := heap_alloc_new (w.alloc (.cells #[.int .i64 e.k, .int .i64 e.n, stv e.nm, .slice ao e.kids.len cap, .int .i64 e.a] 24)) (.cells #[.int .i64 e2.k, .int .i64 e2.n, stv e2.nm, .slice ao2 e2.kids.len cap2, .int .i64 e2.a] 24)
    simpa using this
  rw [exV_out, exV_out]
  go_enter Tryd.func10, Tryd.ntmps10
  go_upto_region 1 with fail
  generalize (w.alloc (.cells #[.int .i64 e.k, .int .i64 e.n, stv e.nm, .slice ao e.kids.len cap, .int .i64 e.a] 24)).alloc (.cells #[.int .i64 e2.k, .int .i64 e2.n, stv e2.nm, .slice ao2 e2.kids.len cap2, .int .i64 e2.a] 24) = w0 at *
  obtain ⟨bx, hbx⟩ : ∃ bx, bx = w.heap.size := ⟨_, rfl⟩
  rw [← hbx] at E0 Y0 B0 ⊢
  have HB : Hid (bx = w.heap.size) := hbx
  clear hbx
  obtain ⟨p0, p1, p2, p3, p4, pf⟩ := box5 E0
  obtain ⟨q0, q1, q2, q3, q4, qf⟩ := box5 Y0
  by_cases h1 : e.k = e2.k
  · by_cases h2 : e.n = e2.n
    · by_cases h3 : e.nm = e2.nm
      · by_cases h4 : e.kids.len = e2.kids.len
        · have h1b : (e.k != e2.k) = false := by simp [h1]
          have h2b : (e.n != e2.n) = false := by simp [h2]
          have h3b : (e.nm == e2.nm) = true := by simp [h3]
          have h4b : ((e.kids.len : Int) != (e2.kids.len : Int)) = false := by rw [h4]; simp
          have h1c : (e.k == e2.k) = true := by simp [h1]
          have h2c : (e.n == e2.n) = true := by simp [h2]
          have h4c : ((e.kids.len : Int) == (e2.kids.len : Int)) = true := by rw [h4]; simp
          have HF : Hid (W = sameF e.kids e2.kids) := by show W = _; rw [HW.out]; simp [sameE, h1, h2, h3]
          have H4 : Hid (e.kids.len = e2.kids.len) := h4
          clear HW h1 h2 h3 h4
          go_wp2
          go_loopw [5] (fun v wr => ∃ (done r d2 r2 : Fs), Hid (e.kids = done.app r) ∧ Hid (e2.kids = d2.app r2) ∧ Hid (d2.len = done.len) ∧ v = .int .i64 (done.len : Nat) ∧ Hid (sameF r r2 = W) ∧ wr.heap[bx]? = some (.cells #[.int .i64 e.k, .int .i64 e.n, stv e.nm, .slice ao e.kids.len cap, .int .i64 e.a] 24) ∧ wr.heap[bx + 1]? = some (.cells #[.int .i64 e2.k, .int .i64 e2.n, stv e2.nm, .slice ao2 e2.kids.len cap2, .int .i64 e2.a] 24) ∧ Below bx w wr) (fun v _ => e.kids.len - (intOf v).toNat)
          case atStart => exact ⟨.nil, e.kids, .nil, e2.kids, rfl, rfl, rfl, by show _ = Value.int .i64 ((0 : Nat) : Int); rfl, HF.out.symm, E0, Y0, B0⟩
          case round =>
            clear E0 Y0 B0 p0 p1 p2 p3 p4 pf q0 q1 q2 q3 q4 qf HF h1b h2b h3b h4b h1c h2c h4c
            obtain ⟨done, r, d2, r2, hk, hk2, hd, rfl, HA, E1, Y1, B1⟩ := hrel
            have hlf : e.kids.len = done.len + r.len := by rw [hk.out, Fs.len_app]
            have hlg : e2.kids.len = d2.len + r2.len := by rw [hk2.out, Fs.len_app]
            have HRR : Hid (r.len = r2.len) := by show _ = _; have := H4.out; have := hd.out; omega
            clear hlg
            obtain ⟨p0, p1, p2, p3, p4, pf⟩ := box5 E1
            obtain ⟨q0, q1, q2, q3, q4, qf⟩ := box5 Y1
            cases r using Fs.on with
            | nil =>
              have hl0 : ¬ (done.len : Int) < (e.kids.len : Int) := by simp only [Fs.len] at hlf; omega
              have FIN : Hid (W = true) := by
                show W = true
                rw [← HA.out]
                cases r2 using Fs.on with
                | nil => rfl
                | cons k n nm a ks r => have := HRR.out; simp only [Fs.len] at this; omega
              clear HA hlf HRR
              go_wp2
              go_ret
              rw [FIN.out]
              exact ⟨rfl, by rw [← HB.out]; exact B1⟩
            | cons kk kn km ka kks kr =>
              cases r2 using Fs.on with
              | nil => have := HRR.out; simp only [Fs.len] at this; omega
              | cons jk jn jm ja jks jr =>
              have hl0 : (done.len : Int) < (e.kids.len : Int) := by simp only [Fs.len] at hlf; omega
              have hl1 : done.len < e.kids.len := by omega
              have hl2 : done.len < e2.kids.len := by have := H4.out; omega
              have hl3 : (done.len : Int) < (e2.kids.len : Int) := by omega
              have hsz : e.kids.size = done.size + (kks.size + kr.size + 1) := by rw [hk.out, Fs.size_app]; rfl
              have hsk : (Fs.cons kk kn km ka kks kr).short := Fs.app_short (by rw [← hk.out]; exact hsh)
              have hsj : (Fs.cons jk jn jm ja jks jr).short := Fs.app_short (by rw [← hk2.out]; exact hsh2)
              obtain ⟨b, off, ak, ck, hao, lb1, -, x0, x1, x2, x3, x4, SK⟩ := Sl.kidQ (by rw [← hk.out]; exact SlA.below S (by rw [← HB.out]; exact B1))
              obtain ⟨b', off', aj, cj, hao', lb2, -, y0, y1, y2, y3, y4, TK⟩ := Sl.kidQ (by rw [← hk2.out]; exact SlA.below S2 (by rw [← HB.out]; exact B1))
              subst hao hao'
              rw [hd.out] at y0 y1 y2 y3 y4
              have hc := IH ⟨kk, kn, km, ka, kks⟩ ⟨jk, jn, jm, ja, jks⟩ ak aj ck cj wr.drew (by show kks.size < N; omega) hsk.2.1 hsk.2.2.1 hsj.2.1 hsj.2.2.1 (SlA.below SK (Below.refl _ wr).drew) (SlA.below TK (Below.refl _ wr).drew)
              rw [exV_out, exV_out] at hc
              simp only at hc
              have HA2 : Hid ((sameE ⟨kk, kn, km, ka, kks⟩ ⟨jk, jn, jm, ja, jks⟩ && sameF kr jr) = W) := HA
              have hf2 : Hid (e.kids = (done.snoc ⟨kk, kn, km, ka, kks⟩).app kr) := by show e.kids = _; rw [hk.out]; unfold Fs.snoc; rw [Fs.app_assoc]; rfl
              have hg2 : Hid (e2.kids = (d2.snoc ⟨jk, jn, jm, ja, jks⟩).app jr) := by show e2.kids = _; rw [hk2.out]; unfold Fs.snoc; rw [Fs.app_assoc]; rfl
              have hd2 : Hid ((d2.snoc ⟨jk, jn, jm, ja, jks⟩).len = (done.snoc ⟨kk, kn, km, ka, kks⟩).len) := by show _ = _; rw [Fs.len_snoc, Fs.len_snoc, hd.out]
              have hl4 : (done.len : Int) + 1 = ((done.snoc ⟨kk, kn, km, ka, kks⟩).len : Nat) := by rw [Fs.len_snoc]; rfl
              generalize sameE ⟨kk, kn, km, ka, kks⟩ ⟨jk, jn, jm, ja, jks⟩ = cc at *
              clear hlf hsz hsk hsj SK TK HA hk hk2 hd
              go_wp2
              have k0 : wr.cell? ⟨bx, 3, none⟩ = some (.slice (some ⟨b, off, none⟩) e.kids.len cap) ∧ wr.cell? ⟨bx + 1, 3, none⟩ = some (.slice (some ⟨b', off', none⟩) e2.kids.len cap2) ∧ wr.cell? ⟨b, off + done.len * 5, none⟩ = some (.int .i64 kk) ∧ wr.cell? ⟨b, off + done.len * 5 + 1, none⟩ = some (.int .i64 kn) ∧ wr.cell? ⟨b, off + done.len * 5 + 2, none⟩ = some (stv km) ∧ wr.cell? ⟨b, off + done.len * 5 + 3, none⟩ = some (.slice ak kks.len ck) ∧ wr.cell? ⟨b, off + done.len * 5 + 4, none⟩ = some (.int .i64 ka) ∧ wr.cell? ⟨b', off' + done.len * 5, none⟩ = some (.int .i64 jk) ∧ wr.cell? ⟨b', off' + done.len * 5 + 1, none⟩ = some (.int .i64 jn) ∧ wr.cell? ⟨b', off' + done.len * 5 + 2, none⟩ = some (stv jm) ∧ wr.cell? ⟨b', off' + done.len * 5 + 3, none⟩ = some (.slice aj jks.len cj) ∧ wr.cell? ⟨b', off' + done.len * 5 + 4, none⟩ = some (.int .i64 ja) := ⟨p3, q3, x0, x1, x2, x3, x4, y0, y1, y2, y3, y4⟩
              have k1 : wr.drew.cell? ⟨bx, 3, none⟩ = some (.slice (some ⟨b, off, none⟩) e.kids.len cap) ∧ wr.drew.cell? ⟨bx + 1, 3, none⟩ = some (.slice (some ⟨b', off', none⟩) e2.kids.len cap2) ∧ wr.drew.cell? ⟨b, off + done.len * 5, none⟩ = some (.int .i64 kk) ∧ wr.drew.cell? ⟨b, off + done.len * 5 + 1, none⟩ = some (.int .i64 kn) ∧ wr.drew.cell? ⟨b, off + done.len * 5 + 2, none⟩ = some (stv km) ∧ wr.drew.cell? ⟨b, off + done.len * 5 + 3, none⟩ = some (.slice ak kks.len ck) ∧ wr.drew.cell? ⟨b, off + done.len * 5 + 4, none⟩ = some (.int .i64 ka) ∧ wr.drew.cell? ⟨b', off' + done.len * 5, none⟩ = some (.int .i64 jk) ∧ wr.drew.cell? ⟨b', off' + done.len * 5 + 1, none⟩ = some (.int .i64 jn) ∧ wr.drew.cell? ⟨b', off' + done.len * 5 + 2, none⟩ = some (stv jm) ∧ wr.drew.cell? ⟨b', off' + done.len * 5 + 3, none⟩ = some (.slice aj jks.len cj) ∧ wr.drew.cell? ⟨b', off' + done.len * 5 + 4, none⟩ = some (.int .i64 ja) := k0
              have lb : bx + 1 < wr.drew.heap.size := lt_of_block Y1
              go_region_held (fun wx => wx.cell? ⟨bx, 3, none⟩ = some (.slice (some ⟨b, off, none⟩) e.kids.len cap) ∧ wx.cell? ⟨bx + 1, 3, none⟩ = some (.slice (some ⟨b', off', none⟩) e2.kids.len cap2) ∧ wx.cell? ⟨b, off + done.len * 5, none⟩ = some (.int .i64 kk) ∧ wx.cell? ⟨b, off + done.len * 5 + 1, none⟩ = some (.int .i64 kn) ∧ wx.cell? ⟨b, off + done.len * 5 + 2, none⟩ = some (stv km) ∧ wx.cell? ⟨b, off + done.len * 5 + 3, none⟩ = some (.slice ak kks.len ck) ∧ wx.cell? ⟨b, off + done.len * 5 + 4, none⟩ = some (.int .i64 ka) ∧ wx.cell? ⟨b', off' + done.len * 5, none⟩ = some (.int .i64 jk) ∧ wx.cell? ⟨b', off' + done.len * 5 + 1, none⟩ = some (.int .i64 jn) ∧ wx.cell? ⟨b', off' + done.len * 5 + 2, none⟩ = some (stv jm) ∧ wx.cell? ⟨b', off' + done.len * 5 + 3, none⟩ = some (.slice aj jks.len cj) ∧ wx.cell? ⟨b', off' + done.len * 5 + 4, none⟩ = some (.int .i64 ja)) (first | (with_reducible exact k2) | (with_reducible exact k1) | (with_reducible exact k0)) ((go_at_call 10; refine hc.mono ?_; rintro x w2 ⟨rfl, b2⟩; have k2 : w2.cell? ⟨bx, 3, none⟩ = some (.slice (some ⟨b, off, none⟩) e.kids.len cap) ∧ w2.cell? ⟨bx + 1, 3, none⟩ = some (.slice (some ⟨b', off', none⟩) e2.kids.len cap2) ∧ w2.cell? ⟨b, off + done.len * 5, none⟩ = some (.int .i64 kk) ∧ w2.cell? ⟨b, off + done.len * 5 + 1, none⟩ = some (.int .i64 kn) ∧ w2.cell? ⟨b, off + done.len * 5 + 2, none⟩ = some (stv km) ∧ w2.cell? ⟨b, off + done.len * 5 + 3, none⟩ = some (.slice ak kks.len ck) ∧ w2.cell? ⟨b, off + done.len * 5 + 4, none⟩ = some (.int .i64 ka) ∧ w2.cell? ⟨b', off' + done.len * 5, none⟩ = some (.int .i64 jk) ∧ w2.cell? ⟨b', off' + done.len * 5 + 1, none⟩ = some (.int .i64 jn) ∧ w2.cell? ⟨b', off' + done.len * 5 + 2, none⟩ = some (stv jm) ∧ w2.cell? ⟨b', off' + done.len * 5 + 3, none⟩ = some (.slice aj jks.len cj) ∧ w2.cell? ⟨b', off' + done.len * 5 + 4, none⟩ = some (.int .i64 ja) := ⟨(b2.cell (p := ⟨bx, 3, none⟩) (Nat.lt_of_succ_lt lb)).trans p3, (b2.cell (p := ⟨bx + 1, 3, none⟩) lb).trans q3, (b2.cell (p := ⟨b, off + done.len * 5, none⟩) lb1).trans x0, (b2.cell (p := ⟨b, off + done.len * 5 + 1, none⟩) lb1).trans x1, (b2.cell (p := ⟨b, off + done.len * 5 + 2, none⟩) lb1).trans x2, (b2.cell (p := ⟨b, off + done.len * 5 + 3, none⟩) lb1).trans x3, (b2.cell (p := ⟨b, off + done.len * 5 + 4, none⟩) lb1).trans x4, (b2.cell (p := ⟨b', off' + done.len * 5, none⟩) lb2).trans y0, (b2.cell (p := ⟨b', off' + done.len * 5 + 1, none⟩) lb2).trans y1, (b2.cell (p := ⟨b', off' + done.len * 5 + 2, none⟩) lb2).trans y2, (b2.cell (p := ⟨b', off' + done.len * 5 + 3, none⟩) lb2).trans y3, (b2.cell (p := ⟨b', off' + done.len * 5 + 4, none⟩) lb2).trans y4⟩))
              have B2 : Below bx w w2 := (B1.drew).trans (b2.mono (by have := HB.out; have := B1.size; show bx ≤ wr.heap.size; omega))
              have E2 := (b2.block bx (Nat.lt_of_succ_lt lb)).trans E1
              have Y2 := (b2.block (bx + 1) lb).trans Y1
              clear k0 k1 k2 p0 p1 p2 p3 p4 pf q0 q1 q2 q3 q4 qf x0 x1 x2 x3 x4 y0 y1 y2 y3 y4 hc b2 E1 Y1 B1
              cases cc with
              | false =>
                have FIN : Hid (W = false) := by show W = _; rw [← HA2.out]; rfl
                clear HA2
                go_wp2
                go_ret
                rw [FIN.out]
                exact ⟨rfl, by rw [← HB.out]; exact B2⟩
              | true =>
                have HA3 : Hid (sameF kr jr = W) := by show _ = W; rw [← HA2.out]; rfl
                clear HA2
                go_wp2
                go_roundw
                case rel => exact ⟨_, kr, _, jr, hf2, hg2, hd2, by rw [← hl4], HA3, E2, Y2, B2⟩
                case measure => simp [intOf]; omega
        · have h1b : (e.k != e2.k) = false := by simp [h1]
          have h2b : (e.n != e2.n) = false := by simp [h2]
          have h3b : (e.nm == e2.nm) = true := by simp [h3]
          have h1c : (e.k == e2.k) = true := by simp [h1]
          have h2c : (e.n == e2.n) = true := by simp [h2]
          have h4b : ((e.kids.len : Int) != (e2.kids.len : Int)) = true := by simp; omega
          have h4c : ((e.kids.len : Int) == (e2.kids.len : Int)) = false := by simp; omega
          have FIN : Hid (W = false) := by show W = _; rw [HW.out]; simp [sameE, sameF_len _ _ h4]
          clear HW h1 h2 h3 h4
          go_wp2
          go_ret
          rw [FIN.out]
          exact ⟨rfl, by rw [← HB.out]; exact B0⟩
      · have h1b : (e.k != e2.k) = false := by simp [h1]
        have h2b : (e.n != e2.n) = false := by simp [h2]
        have h1c : (e.k == e2.k) = true := by simp [h1]
        have h2c : (e.n == e2.n) = true := by simp [h2]
        have h3b : (e.nm == e2.nm) = false := by simpa using h3
        have FIN : Hid (W = false) := by show W = _; rw [HW.out]; simp [sameE, h3]
        clear HW h1 h2 h3
        go_wp2
        go_ret
        rw [FIN.out]
        exact ⟨rfl, by rw [← HB.out]; exact B0⟩
    · have h1b : (e.k != e2.k) = false := by simp [h1]
      have h1c : (e.k == e2.k) = true := by simp [h1]
      have h2b : (e.n != e2.n) = true := by simpa using h2
      have h2c : (e.n == e2.n) = false := by simpa using h2
      have FIN : Hid (W = false) := by show W = _; rw [HW.out]; simp [sameE, h2]
      clear HW h1 h2
      go_wp2
      go_ret
      rw [FIN.out]
      exact ⟨rfl, by rw [← HB.out]; exact B0⟩
  · have h1b : (e.k != e2.k) = true := by simpa using h1
    have h1c : (e.k == e2.k) = false := by simpa using h1
    have FIN : Hid (W = false) := by show W = _; rw [HW.out]; simp [sameE, h1]
    clear HW h1
    go_wp2
    go_ret
    rw [FIN.out]
    exact ⟨rfl, by rw [← HB.out]; exact B0⟩
theorem refsame_ok : ∀ N, RefSameOk N
  | 0 => fun e e2 ao ao2 cap cap2 w h => absurd h (Nat.not_lt_zero _)
  | N + 1 => refsame_step (refsame_ok N)
theorem sameF_sym : ∀ (f g : Fs), sameF f g = sameF g f
  | ⟨none⟩, ⟨none⟩ => rfl
  | ⟨none⟩, ⟨some ⟨k', n', nm', a', ks', r'⟩⟩ => rfl
  | ⟨some ⟨k, n, nm, a, ks, r⟩⟩, ⟨none⟩ => rfl
  | ⟨some ⟨k, n, nm, a, ks, r⟩⟩, ⟨some ⟨k', n', nm', a', ks', r'⟩⟩ => by
    simp only [sameF, sameF_sym ks ks', sameF_sym r r']
    rw [Bool.beq_comm (a := k), Bool.beq_comm (a := n), Bool.beq_comm (a := nm)]
theorem sameE_sym (a b : Ex) : sameE a b = sameE b a := by
  unfold sameE
  rw [sameF_sym a.kids b.kids, Bool.beq_comm (a := a.k), Bool.beq_comm (a := a.n), Bool.beq_comm (a := a.nm)]
theorem sameE_self (a : Ex) : sameE a a = true := by simp [sameE, sameF_self]
end Go.Proofs.YtlmeonpdjcophaaDoor
