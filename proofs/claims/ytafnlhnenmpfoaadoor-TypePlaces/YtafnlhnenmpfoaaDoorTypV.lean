/- A tree whose places are by some more: shifted of package isthmuslaw13. -/
import Derived.Test.YtafnlhnenmpfoaaDoorAwaT
namespace Go.Proofs.YtafnlhnenmpfoaaDoor
open Go.ChangeShapes Go.WideShapes Go.ChangeAt Go.RowKit
set_option linter.unusedVariables false
set_option linter.unusedSimpArgs false

/-- A count down by parts. -/
def wgF : Fs → Int → Int
  | ⟨none⟩, l => l
  | ⟨some ⟨_, _, _, _, ks, r⟩⟩, l => if l < 0 then l else wgF r (wgF ks (l - 1))
theorem wgF_cons (k n : Int) (nm : List UInt8) (a : Int) (ks r : Fs) (l : Int) : wgF (.cons k n nm a ks r) l = if l < 0 then l else wgF r (wgF ks (l - 1)) := rfl
theorem wgF_neg : ∀ (f : Fs) (l : Int), l < 0 → wgF f l = l
  | ⟨none⟩, l, h => rfl
  | ⟨some ⟨k, n, nm, a, ks, r⟩⟩, l, h => by simp only [wgF, h, if_true]
theorem wgF_size : ∀ (f : Fs) (l : Int), 0 ≤ wgF f l → wgF f l = l - (f.size : Nat)
  | ⟨none⟩, l, h => by show l = l - ((0 : Nat) : Int); omega
  | ⟨some ⟨k, n, nm, a, ks, r⟩⟩, l, h => by
    have e : wgF ⟨some ⟨k, n, nm, a, ks, r⟩⟩ l = if l < 0 then l else wgF r (wgF ks (l - 1)) := rfl
    rw [e] at h ⊢
    split at h
    · omega
    · rename_i hl
      rw [if_neg hl]
      have h1 := wgF_size r _ h
      by_cases h2 : wgF ks (l - 1) < 0
      · rw [wgF_neg r _ h2] at h
        omega
      · have h3 := wgF_size ks (l - 1) (by omega)
        show _ = l - ((ks.size + r.size + 1 : Nat) : Int)
        omega
theorem wgF_le : ∀ (f : Fs) (l : Int), -1 ≤ l → -1 ≤ wgF f l ∧ wgF f l ≤ l
  | ⟨none⟩, l, h => ⟨h, Int.le_refl _⟩
  | ⟨some ⟨k, n, nm, a, ks, r⟩⟩, l, h => by
    have e : wgF ⟨some ⟨k, n, nm, a, ks, r⟩⟩ l = if l < 0 then l else wgF r (wgF ks (l - 1)) := rfl
    rw [e]
    split
    · exact ⟨h, Int.le_refl _⟩
    · have h1 := wgF_le ks (l - 1) (by omega)
      have h2 := wgF_le r _ h1.1
      exact ⟨h2.1, by omega⟩
def heavyB (e : Ex) : Bool := decide (wgF e.kids 19999 < 0)
theorem light {e : Ex} (h : heavyB e = false) : e.kids.size ≤ 19999 := by
  have h1 : ¬ wgF e.kids 19999 < 0 := by simpa [heavyB] using h
  have := wgF_size e.kids 19999 (by omega)
  omega
/-- Lists are no longer than a slice may be. -/
def Fs.wide : Fs → Prop
  | ⟨none⟩ => True
  | ⟨some ⟨_, _, _, _, ks, r⟩⟩ => ks.len ≤ maxLen ∧ ks.wide ∧ r.wide
theorem Fs.app_wide : ∀ {x y : Fs}, (x.app y).wide → y.wide
  | ⟨none⟩, y, h => h
  | ⟨some ⟨k, n, nm, a, ks, r⟩⟩, y, h => Fs.app_wide (x := r) h.2.2
def WeighOk (N : Nat) : Prop := ∀ (e : Ex) (ao : Option Addr) (cap : Nat) (l : Int) (w : World), e.kids.size < N → e.kids.len ≤ maxLen → e.kids.wide → 0 ≤ l → l ≤ 1000000 → SlA w e.kids ao →
  Calls Tryd.prog 12 #[exV e ao cap, .int .i64 l] w fun x w' => x = .returned (.int .i64 (wgF e.kids (l - 1))) ∧ Below w.heap.size w w'
set_option maxRecDepth 100000 in
set_option maxHeartbeats 1000000 in
theorem weigh_step {N : Nat} (IH : WeighOk N) : WeighOk (N + 1) := by
  intro e ao cap l w hN hlen hwd hl0 hl1 S
  obtain ⟨W, hW⟩ : ∃ W, W = wgF e.kids (l - 1) := ⟨_, rfl⟩
  rw [← hW]
  have HW : Hid (W = wgF e.kids (l - 1)) := hW
  have hml : Hid (maxLen = 9223372036854775807) := rfl
  have hlm : e.kids.len ≤ 9223372036854775807 := by have := hml.out; omega
  clear hW
  have B0 : Below w.heap.size w (w.alloc (.cells #[.int .i64 e.k, .int .i64 e.n, stv e.nm, .slice ao e.kids.len cap, .int .i64 e.a] 24)) := (Below.refl _ w).alloc (Nat.le_refl _) _
  have E0 : (w.alloc (.cells #[.int .i64 e.k, .int .i64 e.n, stv e.nm, .slice ao e.kids.len cap, .int .i64 e.a] 24)).heap[w.heap.size]? = some (.cells #[.int .i64 e.k, .int .i64 e.n, stv e.nm, .slice ao e.kids.len cap, .int .i64 e.a] 24) := heap_alloc_new w _
  rw [exV_out]
  go_enter Tryd.func12, Tryd.ntmps12
  go_upto_region 1 with fail
  generalize w.alloc (.cells #[.int .i64 e.k, .int .i64 e.n, stv e.nm, .slice ao e.kids.len cap, .int .i64 e.a] 24) = w0 at *
  obtain ⟨bx, hbx⟩ : ∃ bx, bx = w.heap.size := ⟨_, rfl⟩
  rw [← hbx] at E0 B0 ⊢
  have HB : Hid (bx = w.heap.size) := hbx
  clear hbx
  go_wp2
  go_loopw [1, 5] (fun v1 v5 wr => ∃ (done r : Fs) (c : Int), Hid (e.kids = done.app r) ∧ v1 = .int .i64 c ∧ v5 = .int .i64 (done.len : Nat) ∧ -1 ≤ c ∧ c ≤ 1000000 ∧ Hid (wgF r c = W) ∧ wr.heap[bx]? = some (.cells #[.int .i64 e.k, .int .i64 e.n, stv e.nm, .slice ao e.kids.len cap, .int .i64 e.a] 24) ∧ Below bx w wr) (fun _ v5 _ => e.kids.len - (intOf v5).toNat)
  case atStart => exact ⟨.nil, e.kids, l - 1, rfl, rfl, by show _ = Value.int .i64 ((0 : Nat) : Int); rfl, by omega, by omega, HW.out.symm, E0, B0⟩
  case round =>
    clear E0 B0 HW
    obtain ⟨done, r, c, hk, rfl, rfl, hc0, hc1, HA, E1, B1⟩ := hrel
    have hlk : e.kids.len = done.len + r.len := by rw [hk.out, Fs.len_app]
    obtain ⟨p0, p1, p2, p3, p4, pf⟩ := box5 E1
    cases r using Fs.on with
    | nil =>
      have hlt : ¬ (done.len : Int) < (e.kids.len : Int) := by simp only [Fs.len] at hlk; omega
      have FIN : Hid (W = c) := HA.out.symm
      clear HA hlk
      go_wp2
      go_ret
      rw [FIN.out]
      exact ⟨rfl, by rw [← HB.out]; exact B1⟩
    | cons kk kn km ka kks kr =>
      have hlt : (done.len : Int) < (e.kids.len : Int) := by simp only [Fs.len] at hlk; omega
      have hl3 : done.len < e.kids.len := by omega
      by_cases hc : c < 0
      · have hcI : ¬ (0 : Int) ≤ c := by omega
        have FIN : Hid (W = c) := by show W = c; rw [← HA.out]; exact wgF_neg _ _ hc
        clear HA hlk
        go_wp2
        go_ret
        rw [FIN.out]
        exact ⟨rfl, by rw [← HB.out]; exact B1⟩
      · have hcI : (0 : Int) ≤ c := by omega
        have hsz : e.kids.size = done.size + (kks.size + kr.size + 1) := by rw [hk.out, Fs.size_app]; rfl
        have hwk : (Fs.cons kk kn km ka kks kr).wide := Fs.app_wide (x := done) (by rw [← hk.out]; exact hwd)
        obtain ⟨b, off, ak, ck, hao, lb1, -, x0, x1, x2, x3, x4, SK⟩ := Sl.kidQ (by rw [← hk.out]; exact SlA.below S (by rw [← HB.out]; exact B1))
        subst hao
        have hcc := IH ⟨kk, kn, km, ka, kks⟩ ak ck c wr (by show kks.size < N; omega) hwk.1 hwk.2.1 hcI (by omega) SK
        rw [exV_out] at hcc
        simp only at hcc
        have hbd := wgF_le kks (c - 1) (by omega)
        have HA2 : Hid (wgF kr (wgF kks (c - 1)) = W) := by show _ = W; rw [← HA.out, wgF_cons, if_neg hc]
        have hk2 : Hid (e.kids = (done.snoc ⟨kk, kn, km, ka, kks⟩).app kr) := by show e.kids = _; rw [hk.out]; unfold Fs.snoc; rw [Fs.app_assoc]; rfl
        have hl2 : (done.len : Int) + 1 = ((done.snoc ⟨kk, kn, km, ka, kks⟩).len : Nat) := by rw [Fs.len_snoc]; rfl
        generalize wgF kks (c - 1) = c2 at *
        clear HA hlk hsz hwk SK hk
        go_wp2_with fail
        refine hcc.mono ?_
        rintro x w2 ⟨rfl, b2⟩
        have B2 := B1.trans (b2.mono (by have := lt_of_block E1; omega))
        have E2 := (b2.block bx (lt_of_block E1)).trans E1
        clear hcc x0 x1 x2 x3 x4 p0 p1 p2 p3 p4 pf b2 E1 B1
        go_wp2
        go_roundw
        case rel => exact ⟨_, kr, c2, hk2, rfl, by rw [← hl2], hbd.1, by omega, HA2, E2, B2⟩
        case measure => simp [intOf]; omega
theorem weigh_ok : ∀ N, WeighOk N
  | 0 => fun e ao cap l w h => absurd h (Nat.not_lt_zero _)
  | N + 1 => weigh_step (weigh_ok N)
set_option maxRecDepth 100000 in
theorem heavy_r (e : Ex) (ao : Option Addr) (cap : Nat) (w : World) (hlen : e.kids.len ≤ maxLen) (hwd : e.kids.wide) (S : SlA w e.kids ao) :
    Calls Tryd.prog 5 #[exV e ao cap] w fun x w' => x = .returned (.bool (heavyB e)) ∧ Below w.heap.size w w' := by
  have B0 : Below w.heap.size w (w.alloc (.cells #[.int .i64 e.k, .int .i64 e.n, stv e.nm, .slice ao e.kids.len cap, .int .i64 e.a] 24)) := (Below.refl _ w).alloc (Nat.le_refl _) _
  have hs0 := B0.size
  have c1 := weigh_ok (e.kids.size + 1) e ao cap 20000 _ (by omega) hlen hwd (by omega) (by omega) (SlA.below S B0)
  rw [exV_out] at c1 ⊢
  have e1 : (20000 : Int) - 1 = 19999 := rfl
  rw [e1] at c1
  unfold heavyB
  generalize wgF e.kids 19999 = r at *
  go_enter Tryd.func5, Tryd.ntmps5
  go_wp2_with fail
  refine c1.mono ?_
  rintro x w1 ⟨rfl, b1⟩
  have B1 := B0.trans (b1.mono hs0)
  clear c1 b1 B0 hs0 e1
  go_wp2
  go_ret
  exact ⟨rfl, B1⟩
end Go.Proofs.YtafnlhnenmpfoaaDoor
namespace Go.Proofs.YtafnlhnenmpfoaaDoor
open Go.ChangeShapes Go.WideShapes Go.ChangeAt Go.RowKit
set_option linter.unusedVariables false
set_option linter.unusedSimpArgs false

/-- A place that is by so much more. -/
def shA (d a : Int) : Int := wrap64 (a + d)
theorem Fs.pl_app (g : Int → Int) : ∀ (x y : Fs), (x.app y).pl g = (x.pl g).app (y.pl g)
  | ⟨none⟩, y => rfl
  | ⟨some ⟨k, n, nm, a, ks, r⟩⟩, y => by simp only [Fs.app, Fs.pl]; rw [Fs.pl_app g r y]
theorem Fs.pl_snoc (g : Int → Int) (x : Fs) (e : Ex) : (x.snoc e).pl g = (x.pl g).snoc (e.pl g) := by unfold Fs.snoc; rw [Fs.pl_app]; rfl
def ShiftedOk (N : Nat) : Prop := ∀ (e : Ex) (ao : Option Addr) (cap : Nat) (d : Int) (w : World), e.kids.size < N → e.kids.len ≤ 1000000000 → e.kids.short → SlA w e.kids ao →
  Calls Tryd.prog 11 #[exV e ao cap, .int .i64 d] w (PostM w (e.pl (shA d)))
set_option maxRecDepth 100000 in
set_option maxHeartbeats 1000000 in
theorem shifted_step {N : Nat} (IH : ShiftedOk N) : ShiftedOk (N + 1) := by
  intro e ao cap d w hN hlen hsh S
  obtain ⟨ii, hii, hzi0, hzi1, hzi2⟩ := info_parts infoExpr
  obtain ⟨w0, hw0⟩ : ∃ w0, w0 = ((w.alloc (.cells #[.int .i64 e.k, .int .i64 e.n, stv e.nm, .slice ao e.kids.len cap, .int .i64 e.a] 24)).alloc (.cells #[.int .i64 0, .int .i64 0, .string ⟨#[]⟩, .slice none 0 0, .int .i64 0] 24)).alloc (.cells #[.int .i64 e.k, .int .i64 e.n, stv e.nm, .slice none 0 0, .int .i64 (wrap64 (e.a + d))] 24) := ⟨_, rfl⟩
  have B0 : Below w.heap.size w w0 := by rw [hw0]; exact (((Below.refl _ w).alloc (Nat.le_refl _) _).alloc (by simp) _).alloc (by simp; omega) _
  obtain ⟨o0, ho0⟩ : ∃ o0 : Nat → Nat, o0 = fun k => if k = w.heap.size + 1 + 1 then 1 else if k = w.heap.size + 1 then 3 else 0 := ⟨_, rfl⟩
  have E0 : Blk w0 o0 0 w.heap.size (.cells #[.int .i64 e.k, .int .i64 e.n, stv e.nm, .slice ao e.kids.len cap, .int .i64 e.a] 24) := by
    refine ⟨?_, by rw [ho0]; simp only; rw [if_neg (by omega), if_neg (by omega)]⟩
    rw [hw0]
    exact (Below.heap_alloc _ _ _ (by simp; omega)).trans ((Below.heap_alloc _ _ _ (by simp)).trans (heap_alloc_new w _))
  have Z0 : Blk w0 o0 3 (w.heap.size + 1) (.cells #[.int .i64 0, .int .i64 0, .string ⟨#[]⟩, .slice none 0 0, .int .i64 0] 24) := by
    refine ⟨?_, by rw [ho0]; simp⟩
    rw [hw0]
    refine (Below.heap_alloc _ _ _ (by simp)).trans ?_
    have := heap_alloc_new (w.alloc (.cells #[.int .i64 e.k, .int .i64 e.n, stv e.nm, .slice ao e.kids.len cap, .int .i64 e.a] 24)) (.cells #[.int .i64 0, .int .i64 0, .string ⟨#[]⟩, .slice none 0 0, .int .i64 0] 24)
    simpa using this
  have O0 : Blk w0 o0 1 (w.heap.size + 1 + 1) (.cells #[.int .i64 e.k, .int .i64 e.n, stv e.nm, .slice none 0 0, .int .i64 (wrap64 (e.a + d))] 24) := by
    refine ⟨?_, by rw [ho0]; simp⟩
    rw [hw0]
    have := heap_alloc_new ((w.alloc (.cells #[.int .i64 e.k, .int .i64 e.n, stv e.nm, .slice ao e.kids.len cap, .int .i64 e.a] 24)).alloc (.cells #[.int .i64 0, .int .i64 0, .string ⟨#[]⟩, .slice none 0 0, .int .i64 0] 24)) (.cells #[.int .i64 e.k, .int .i64 e.n, stv e.nm, .slice none 0 0, .int .i64 (wrap64 (e.a + d))] 24)
    simpa using this
  have L0 : ∀ k, k < w.heap.size → o0 k = 0 := fun k hk => by rw [ho0]; simp only; rw [if_neg (by omega), if_neg (by omega)]
  have A0 : AccL w0 o0 w.heap.size (Fs.pl (shA d) .nil) (.slice none 0 0) := ⟨[], Row.nil _ _ _ _ _, rfl⟩
  rw [exV_out]
  go_enter Tryd.func11, Tryd.ntmps11
  go_upto_region 2 with fail
  rw [← hw0]
  clear hw0 ho0
  obtain ⟨n0, hn0⟩ : ∃ n0, n0 = w.heap.size := ⟨_, rfl⟩
  unfold PostM
  rw [← hn0] at E0 Z0 O0 L0 A0 B0 ⊢
  have HB : Hid (n0 = w.heap.size) := hn0
  clear hn0
  go_wp2
  go_loopw [6] (fun v wr => ∃ (done r : Fs) (o : Nat → Nat) (va : Value), Hid (e.kids = done.app r) ∧ v = .int .i64 (done.len : Nat) ∧ Blk wr o 0 n0 (.cells #[.int .i64 e.k, .int .i64 e.n, stv e.nm, .slice ao e.kids.len cap, .int .i64 e.a] 24) ∧ Blk wr o 3 (n0 + 1) (.cells #[.int .i64 0, .int .i64 0, .string ⟨#[]⟩, .slice none 0 0, .int .i64 0] 24) ∧ Blk wr o 1 (n0 + 1 + 1) (.cells #[.int .i64 e.k, .int .i64 e.n, stv e.nm, va, .int .i64 (wrap64 (e.a + d))] 24) ∧ AccL wr o n0 (done.pl (shA d)) va ∧ Hid (∀ k, k < n0 → o k = 0) ∧ Below n0 w wr) (fun v _ => e.kids.len - (intOf v).toNat)
  case atStart => exact ⟨.nil, e.kids, o0, .slice none 0 0, rfl, by show _ = Value.int .i64 ((0 : Nat) : Int); rfl, E0, Z0, O0, A0, L0, B0⟩
  case round =>
    clear E0 Z0 O0 A0 L0 B0
    obtain ⟨done, r, o, va, hk, rfl, E1, Z1, O1, A1, L1, B1⟩ := hrel
    have hlk : e.kids.len = done.len + r.len := by rw [hk.out, Fs.len_app]
    obtain ⟨p0, p1, p2, p3, p4, pf⟩ := box5 E1.1
    cases r using Fs.on with
    | nil =>
      have hl0 : ¬ (done.len : Int) < (e.kids.len : Int) := by simp only [Fs.len] at hlk; omega
      have hdn : e.kids = done := by rw [hk.out]; clear hk hlk hl0 A1; exact app_nil' done
      have hkd : Hid ((e.pl (shA d)).kids = done.pl (shA d)) := by show e.kids.pl (shA d) = _; rw [hdn]
      obtain ⟨a1, c1, rfl, SL⟩ := A1.sl L1.out
      have hdl : (done.pl (shA d)).len = done.len := Fs.len_pl (shA d) done
      rw [hdl] at O1
      have SE := SL.mono (w' := ((((wr.setCell ⟨n0 + 1, 0, none⟩ (.int .i64 e.k)).setCell ⟨n0 + 1, 1, none⟩ (.int .i64 e.n)).setCell ⟨n0 + 1, 2, none⟩ (stv e.nm)).setCell ⟨n0 + 1, 3, none⟩ (.slice a1 done.len c1)).setCell ⟨n0 + 1, 4, none⟩ (.int .i64 (wrap64 (e.a + d)))) (Q := Nw n0) (fun i hp hl => heap_set5 wr (n0 + 1) i _ _ _ _ _ (fun ee => by
        have h2 := Z1.2
        rw [← ee] at h2
        rcases hp.2 with h | h <;> omega)) (by simp) (fun i hp _ => hp.1)
      have BE := ((((B1.setCell (p := ⟨n0 + 1, 0, none⟩) (Nat.le_succ _) (.int .i64 e.k)).setCell (p := ⟨n0 + 1, 1, none⟩) (Nat.le_succ _) (.int .i64 e.n)).setCell (p := ⟨n0 + 1, 2, none⟩) (Nat.le_succ _) (stv e.nm)).setCell (p := ⟨n0 + 1, 3, none⟩) (Nat.le_succ _) (.slice a1 done.len c1)).setCell (p := ⟨n0 + 1, 4, none⟩) (Nat.le_succ _) (.int .i64 (wrap64 (e.a + d)))
      have ZE := set5k (.int .i64 e.k) (.int .i64 e.n) (stv e.nm) (.slice a1 done.len c1) (.int .i64 (wrap64 (e.a + d))) Z1.1
      have HU : Hid (∃ wz, wz = ((((wr.setCell ⟨n0 + 1, 0, none⟩ (.int .i64 e.k)).setCell ⟨n0 + 1, 1, none⟩ (.int .i64 e.n)).setCell ⟨n0 + 1, 2, none⟩ (stv e.nm)).setCell ⟨n0 + 1, 3, none⟩ (.slice a1 done.len c1)).setCell ⟨n0 + 1, 4, none⟩ (.int .i64 (wrap64 (e.a + d))) ∧ wz.cell? ⟨n0 + 1, 0, none⟩ = some (.int .i64 e.k) ∧ wz.cell? ⟨n0 + 1, 1, none⟩ = some (.int .i64 e.n) ∧ wz.cell? ⟨n0 + 1, 2, none⟩ = some (stv e.nm) ∧ wz.cell? ⟨n0 + 1, 3, none⟩ = some (.slice a1 done.len c1) ∧ wz.cell? ⟨n0 + 1, 4, none⟩ = some (.int .i64 (wrap64 (e.a + d))) ∧ Sl wz (Nw n0) (done.pl (shA d)) a1 ∧ Below n0 w wz) := by
        obtain ⟨u0, u1, u2, u3, u4, -⟩ := box5 ZE
        exact ⟨_, rfl, u0, u1, u2, u3, u4, SE, BE⟩
      obtain ⟨u0, u1, u2, u3, u4, uf⟩ := box5 O1.1
      obtain ⟨z0, z1, z2, z3, z4, zf⟩ := box5 Z1.1
      clear hlk SL SE BE ZE E1 Z1 O1 L1 B1 hdn hk
      go_wp2
      obtain ⟨wz, hwz, v0, v1, v2, v3, v4, SZ, BZ⟩ := HU.out
      clear HU
      rw [← hwz]
      clear hwz
      have hkl : (Fs.pl (shA d) e.kids).len = done.len := by rw [show Fs.pl (shA d) e.kids = (e.pl (shA d)).kids from rfl, hkd.out, hdl]
      refine bodyPost_ret (v := exV (e.pl (shA d)) a1 c1) (by simp [results, Tryd.results11, go_sem, v0, v1, v2, v3, v4, exV, Ex.pl, shA, hkl]) rfl ⟨a1, c1, rfl, by rw [hkd.out, ← HB.out]; exact SZ, by rw [← HB.out]; exact BZ⟩
    | cons kk kn km ka kks kr =>
      have hl0 : (done.len : Int) < (e.kids.len : Int) := by simp only [Fs.len] at hlk; omega
      have hl1 : done.len < e.kids.len := by omega
      have hsz : e.kids.size = done.size + (kks.size + kr.size + 1) := by rw [hk.out, Fs.size_app]; rfl
      have hsk : (Fs.cons kk kn km ka kks kr).short := Fs.app_short (by rw [← hk.out]; exact hsh)
      have hn0 : n0 ≤ wr.heap.size := by have := E1.lt; omega
      obtain ⟨b, off, ak, ck, hao, lb1, -, x0, x1, x2, x3, x4, SK⟩ := Sl.kidQ (by rw [← hk.out]; exact SlA.below S (by rw [← HB.out]; exact B1))
      subst hao
      obtain ⟨y, hy⟩ : ∃ y, y = Ex.pl (shA d) ⟨kk, kn, km, ka, kks⟩ := ⟨_, rfl⟩
      have hc := IH ⟨kk, kn, km, ka, kks⟩ ak ck d wr (by show kks.size < N; omega) hsk.2.1 hsk.2.2.1 SK
      rw [exV_out, ← hy] at hc
      simp only at hc
      have hdl : (done.pl (shA d)).len = done.len := Fs.len_pl (shA d) done
      have hk2 : Hid (e.kids = (done.snoc ⟨kk, kn, km, ka, kks⟩).app kr) := by show e.kids = _; rw [hk.out]; unfold Fs.snoc; rw [Fs.app_assoc]; rfl
      have HS : Hid ((done.snoc ⟨kk, kn, km, ka, kks⟩).pl (shA d) = (done.pl (shA d)).snoc y) := by show _ = _; rw [hy, Fs.pl_snoc]
      have hl2 : (done.len : Int) + 1 = ((done.snoc ⟨kk, kn, km, ka, kks⟩).len : Nat) := by rw [Fs.len_snoc]; rfl
      clear hlk hsz hsk hy SK
      go_wp2_with fail
      refine hc.mono ?_
      rintro x w6 ⟨ak6, ck6, rfl, S6, b6⟩
      have s6 : Step (fun _ => False) wr o w6 (newLab wr o 0) := ((Step.refl _ wr o).labelled 0).trans (Step.ofB (newLab wr o 0) b6)
      have T6 : Sl w6 (N0 n0 (newLab wr o 0)) y.kids ak6 := S6.mono (fun _ _ _ => rfl) (Nat.le_refl _) (fun i hp hl => ⟨Nat.le_trans hn0 hp, newLab_new hp⟩)
      have L6 : Hid (∀ k, k < n0 → newLab wr o 0 k = 0) := fun k hk => by rw [newLab_old (by omega)]; exact L1.out k hk
      have E6 := E1.step s6 id
      have Z6 := Z1.step s6 id
      have O6 := O1.step s6 id
      have A6 := A1.step s6 id id
      have B6 := below_stepB B1 s6 (fun _ _ => id) (by rw [HB.out]; exact Nat.le_refl _)
      generalize newLab wr o 0 = o6 at *
      clear hc S6 b6 s6 E1 Z1 O1 A1 B1 L1 x0 x1 x2 x3 x4 p0 p1 p2 p3 p4 pf
      have s7 := boxStep (fun _ => False) w6 o6 (.cells #[.int .i64 y.k, .int .i64 y.n, stv y.nm, .slice ak6 y.kids.len ck6, .int .i64 y.a] 24)
      have K7 := boxBlk w6 o6 #[.int .i64 y.k, .int .i64 y.n, stv y.nm, .slice ak6 y.kids.len ck6, .int .i64 y.a] 24
      have T7 := T6.lab s7 id
      have hs6 : n0 ≤ w6.heap.size := by have := E6.lt; omega
      have L7 : Hid (∀ k, k < n0 → newLab w6 o6 0 k = 0) := fun k hk => by rw [newLab_old (by omega)]; exact L6.out k hk
      have E7 := E6.step s7 id
      have Z7 := Z6.step s7 id
      have O7 := O6.step s7 id
      have A7 := A6.step s7 id id
      have B7 := below_stepB B6 s7 (fun _ _ => id) (by rw [HB.out]; exact Nat.le_refl _)
      rw [exV_out]
      go_upto_region 6 with fail
      generalize newLab w6 o6 0 = o7 at *
      generalize w6.alloc (.cells #[.int .i64 y.k, .int .i64 y.n, stv y.nm, .slice ak6 y.kids.len ck6, .int .i64 y.a] 24) = w7 at *
      generalize w6.heap.size = bk at *
      clear s7 T6 E6 Z6 O6 A6 B6 L6
      obtain ⟨p0, p1, p2, p3, p4, pf⟩ := box5 O7.1
      obtain ⟨q0, q1, q2, q3, q4, qf⟩ := box5 K7.1
      have s8 := boxStep (fun _ => False) w7 o7 (.cells #[.int .i64 y.k, .int .i64 y.n, stv y.nm, .slice ak6 y.kids.len ck6, .int .i64 y.a] 24)
      have T8 := T7.lab s8 id
      have L8 : Hid (∀ k, k < n0 → newLab w7 o7 0 k = 0) := fun k hk => by rw [newLab_old (by have := E7.lt; omega)]; exact L7.out k hk
      have E8 := E7.step s8 id
      have Z8 := Z7.step s8 id
      have O8 := O7.step s8 id
      have A8 := A7.step s8 id id
      have B8 := below_stepB B7 s8 (fun _ _ => id) (by rw [HB.out]; exact Nat.le_refl _)
      obtain ⟨xs, R8, F8⟩ := A8
      rw [hdl] at R8
      obtain ⟨a8, c8, rfl⟩ := R8.form
      have b1 : done.len + 1 ≤ maxLen := by unfold maxLen; omega
      have b2 : (done.len + 1) * 64 ≤ 140737488355328 := by omega
      have hone : ∀ u ∈ [Value.int .i64 y.k, .int .i64 y.n, stv y.nm, .slice ak6 y.kids.len ck6, .int .i64 y.a], u.oneCell' = true := by intro u hu; simp at hu; rcases hu with rfl | rfl | rfl | rfl | rfl <;> rfl
      clear E7 Z7 O7 A7 B7 L7 T7 s8
      go_wp2_with (first | (at_builtin; refine wpList_append_lab rfl (.tmp 34) (.tmp 36) 22 rfl 24 ii _ 5 64 Tryd.underlying22 hii hzi0 hzi1 hzi2 rfl (by decide) (newLab w7 o7 0) 2 _ done.len xs rfl R8 ⟨w7.heap.size, 0, none⟩ 1 1 [Value.int .i64 y.k, .int .i64 y.n, stv y.nm, .slice ak6 y.kids.len ck6, .int .i64 y.a] rfl rfl (new_cells_at w7 _ _) hone (by decide) b1 b2 ?_) | go_in)
      intro g9 c9 w9 o9 r9 s9
      have A9 : AccL w9 o9 n0 ((done.pl (shA d)).snoc y) (.slice (some ⟨g9, 0, none⟩) (done.len + 1) c9) := AccL.push F8 T8 s9 (by rw [hdl]; exact r9)
      have E9 := E8.step s9 (by decide)
      have Z9 := Z8.step s9 (by decide)
      have O9 := O8.step s9 (by decide)
      have L9 : Hid (∀ k, k < n0 → o9 k = 0) := fun k hk => (s9.lab k (by have := E8.lt; omega)).trans (L8.out k hk)
      have B9 := below_stepB B8 s9 (fun k hk => by rw [L8.out k hk]; decide) (by rw [HB.out]; exact Nat.le_refl _)
      have s10 : Step (fun k => k = 1) w9 o9 (w9.setCell ⟨n0 + 1 + 1, 3, none⟩ (.slice (some ⟨g9, 0, none⟩) (done.len + 1) c9)) o9 := setStep _ w9 o9 ⟨n0 + 1 + 1, 3, none⟩ _ O9.2
      have A10 := A9.step s10 (by decide) (by decide)
      have E10 := E9.step s10 (by decide)
      have Z10 := Z9.step s10 (by decide)
      have O10 := O9.set 3 (.slice (some ⟨g9, 0, none⟩) (done.len + 1) c9)
      have B10 := below_stepB B9 s10 (fun k hk => by rw [L9.out k hk]; decide) (by rw [HB.out]; exact Nat.le_refl _)
      obtain ⟨t0, t1, t2, t3, t4, tf⟩ := box5 O9.1
      rw [← HS.out] at A10
      clear A9 E9 Z9 O9 B9 s10 E8 Z8 O8 B8 L8 T8 R8 F8 r9 s9 p0 p1 p2 p3 p4 pf q0 q1 q2 q3 q4 qf hk HS K7
      go_wp2
      go_roundw
      case rel => exact ⟨_, kr, o9, _, hk2, by rw [← hl2], E10, Z10, O10, A10, L9, B10⟩
      case measure => simp [intOf]; omega
theorem shifted_ok : ∀ N, ShiftedOk N -- 11
  | 0 => fun e ao cap d w h => absurd h (Nat.not_lt_zero _)
  | N + 1 => shifted_step (shifted_ok N)
end Go.Proofs.YtafnlhnenmpfoaaDoor
