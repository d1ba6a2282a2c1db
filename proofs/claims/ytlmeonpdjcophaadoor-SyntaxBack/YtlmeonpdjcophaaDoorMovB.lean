/- A tree with other places: moved of package isthmuslaw12; trees that are the same but for places. -/
import Derived.Test.YtlmeonpdjcophaaDoorMovA
import Derived.Test.YtlmeonpdjcophaaDoorSameA
import Derived.Test.YtlmeonpdjcophaaDoorSzJ
namespace Go.Proofs.YtlmeonpdjcophaaDoor
open Go.ChangeShapes Go.WideShapes Go.ChangeAt Go.RowKit
set_option linter.unusedVariables false
set_option linter.unusedSimpArgs false

theorem sameF_len2 {f g : Fs} (h : sameF f g = true) : f.len = g.len := by
  by_cases e : f.len = g.len
  · exact e
  · rw [sameF_len f g e] at h
    cases h
theorem sameF_app : ∀ {f g x y : Fs}, sameF f g = true → sameF x y = true → sameF (f.app x) (g.app y) = true
  | ⟨none⟩, ⟨none⟩, x, y, h, k => k
  | ⟨none⟩, ⟨some ⟨k', n', nm', a', ks', r'⟩⟩, x, y, h, k => by cases h
  | ⟨some ⟨k, n, nm, a, ks, r⟩⟩, ⟨none⟩, x, y, h, _ => by cases h
  | ⟨some ⟨k, n, nm, a, ks, r⟩⟩, ⟨some ⟨k', n', nm', a', ks', r'⟩⟩, x, y, h, hk => by
    simp only [sameF, Bool.and_eq_true] at h
    show (k == k' && n == n' && nm == nm' && sameF ks ks' && sameF (r.app x) (r'.app y)) = true
    rw [h.1.1.1.1, h.1.1.1.2, h.1.1.2, h.1.2, sameF_app h.2 hk]
    rfl
theorem sameF_snoc {f g : Fs} {x y : Ex} (h : sameF f g = true) (k : sameE x y = true) : sameF (f.snoc x) (g.snoc y) = true := by
  refine sameF_app h ?_
  show (x.k == y.k && x.n == y.n && x.nm == y.nm && sameF x.kids y.kids && true) = true
  unfold sameE at k
  rw [k]
  rfl
/-- What does not hang on places. -/
theorem same_all : ∀ {f g : Fs}, sameF f g = true → f.len = g.len ∧ f.size = g.size ∧ (∀ b c, hFs f b c = hFs g b c) ∧ (∀ sp i s, wFs f sp i s = wFs g sp i s) ∧ (g.short → f.short) ∧ (g.rng → f.rng)
  | ⟨none⟩, ⟨none⟩, h => ⟨rfl, rfl, fun b c => rfl, fun sp i s => rfl, id, id⟩
  | ⟨none⟩, ⟨some ⟨k', n', nm', a', ks', r'⟩⟩, h => by cases h
  | ⟨some ⟨k, n, nm, a, ks, r⟩⟩, ⟨none⟩, h => by cases h
  | ⟨some ⟨k, n, nm, a, ks, r⟩⟩, ⟨some ⟨k', n', nm', a', ks', r'⟩⟩, h => by
    simp only [sameF, Bool.and_eq_true, beq_iff_eq] at h
    obtain ⟨⟨⟨⟨rfl, rfl⟩, rfl⟩, h4⟩, h5⟩ := h
    obtain ⟨a1, a2, a3, a4, a5, a6⟩ := same_all h4
    obtain ⟨b1, b2, b3, b4, b5, b6⟩ := same_all h5
    refine ⟨by simp only [Fs.len, b1], by simp only [Fs.size, a2, b2], fun b c => ?_, fun sp i s => ?_, fun hh => ⟨hh.1, by rw [a1]; exact hh.2.1, a5 hh.2.2.1, b5 hh.2.2.2⟩, fun hh => ⟨hh.1, hh.2.1, a6 hh.2.2.1, b6 hh.2.2.2⟩⟩
    · simp only [hFs, a1, a3, b3]
    · have hK : (fun g s => wFs ks g 0 s) = fun g s => wFs ks' g 0 s := by funext g s; exact a4 g 0 s
      show wFs r sp (i + 1) (wE k n nm (sp i).2 (fun g s => wFs ks g 0 s) (s.lay (sp i).1)) = wFs r' sp (i + 1) (wE k n nm (sp i).2 (fun g s => wFs ks' g 0 s) (s.lay (sp i).1))
      rw [hK]
      exact b4 _ _ _
theorem writA_same {a b : Ex} (h : sameE a b = true) : writA a = writA b ∧ (b.fit → a.fit) ∧ a.kids.size = b.kids.size := by
  simp only [sameE, Bool.and_eq_true, beq_iff_eq] at h
  obtain ⟨⟨⟨h1, h2⟩, h3⟩, h4⟩ := h
  obtain ⟨a1, a2, a3, a4, a5, a6⟩ := same_all h4
  have hh : ∀ c, hE a c = hE b c := fun c => by unfold hE; rw [h1, h2, h3, a1, a3]
  have hw : ∀ s, wEx a 0 s = wEx b 0 s := fun s => by
    have hK : (fun g s => wFs a.kids g 0 s) = fun g s => wFs b.kids g 0 s := by funext g s; exact a4 g 0 s
    unfold wEx
    rw [h1, h2, h3, hK]
  refine ⟨?_, fun hb => ⟨by rw [h3]; exact hb.nm, a5 hb.sh, by rw [a1]; exact hb.len, by rw [h2]; exact hb.n1, by rw [h2]; exact hb.n2, a6 hb.rng⟩, a2⟩
  unfold writA
  rw [h1, hh, hw]
/-- What a call that makes a tree like another one answers. -/
def PostD (w : World) (e : Ex) (x : Ending) (w' : World) : Prop := ∃ y ao cap, x = .returned (exV y ao cap) ∧ sameE y e = true ∧ Sl w' (Nw w.heap.size) y.kids ao ∧ Below w.heap.size w w'
def MovedOk (N : Nat) : Prop := ∀ (e : Ex) (ao : Option Addr) (cap : Nat) (d : Int) (w : World), e.kids.size < N → e.kids.len ≤ 1000000000 → e.kids.short → -9223372036854775808 ≤ d → d ≤ 9223372036854775807 → SlA w e.kids ao →
  Calls Tryd.prog 14 #[exV e ao cap, .int .i64 d] w (PostD w e)
set_option maxRecDepth 100000 in
set_option maxHeartbeats 1000000 in
theorem moved_step {N : Nat} (IH : MovedOk N) : MovedOk (N + 1) := by
  intro e ao cap d w hN hlen hsh hd0 hd1 S
  obtain ⟨ii, hii, hzi0, hzi1, hzi2⟩ := info_parts infoExpr
  obtain ⟨w0, hw0⟩ : ∃ w0, w0 = ((w.alloc (.cells #[.int .i64 e.k, .int .i64 e.n, stv e.nm, .slice ao e.kids.len cap, .int .i64 e.a] 24)).alloc (.cells #[.int .i64 0, .int .i64 0, .string ⟨#[]⟩, .slice none 0 0, .int .i64 0] 24)).alloc (.cells #[.int .i64 e.k, .int .i64 e.n, stv e.nm, .slice none 0 0, .int .i64 d] 24) := ⟨_, rfl⟩
  have B0 : Below w.heap.size w w0 := by rw [hw0]; exact (((Below.refl _ w).alloc (Nat.le_refl _) _).alloc (by simp) _).alloc (by simp; omega) _
  obtain ⟨o0, ho0⟩ : ∃ o0 : Nat → Nat, o0 = fun k => if k = w.heap.size + 1 + 1 then 1 else if k = w.heap.size + 1 then 3 else 0 := ⟨_, rfl⟩
  have E0 : Blk w0 o0 0 w.heap.size (.cells #[.int .i64 e.k, .int .i64 e.n, stv e.nm, .slice ao e.kids.len cap, .int .i64 e.a] 24) := by
    refine ⟨?_, by rw [ho0]; simp only; rw [if_neg (by omega), if_neg (by omega)]⟩
    rw [hw0]
    exact (Below.heap_alloc _ _ _ (by simp; omega)).trans ((Below.heap_alloc _ _ _ (by simp)).trans (heap_alloc_new w _))
  have Z0 : Blk w0 o0 3 (w.heap.size + 1) (.cells #[.int .i64 0, .int .i64 0, .string ⟨#[]⟩, .slice none 0 0, .int .i64 0] 24) := by
    refine ⟨?_, by rw [ho0]; simp⟩
    rw [hw0]
    refine (Below.heap_alloc _ _ _ (by simp)).trans ?_
    have := heap_alloc_new (w.alloc (.cells #[.int .i64 e.k, .int .i64 e.n, stv e.nm, .slice ao e.kids.len cap, .int .i64 e.a] 24)) (.cells #[.int .i64 0, .int .i64 0, .string ⟨#[]⟩, .slice none 0 0, .int .i64 0] 24)
    simpa using this
  have O0 : Blk w0 o0 1 (w.heap.size + 1 + 1) (.cells #[.int .i64 e.k, .int .i64 e.n, stv e.nm, .slice none 0 0, .int .i64 d] 24) := by
    refine ⟨?_, by rw [ho0]; simp⟩
    rw [hw0]
    have := heap_alloc_new ((w.alloc (.cells #[.int .i64 e.k, .int .i64 e.n, stv e.nm, .slice ao e.kids.len cap, .int .i64 e.a] 24)).alloc (.cells #[.int .i64 0, .int .i64 0, .string ⟨#[]⟩, .slice none 0 0, .int .i64 0] 24)) (.cells #[.int .i64 e.k, .int .i64 e.n, stv e.nm, .slice none 0 0, .int .i64 d] 24)
    simpa using this
  have L0 : ∀ k, k < w.heap.size → o0 k = 0 := fun k hk => by rw [ho0]; simp only; rw [if_neg (by omega), if_neg (by omega)]
  have A0 : AccL w0 o0 w.heap.size .nil (.slice none 0 0) := ⟨[], Row.nil _ _ _ _ _, rfl⟩
  rw [exV_out]
  go_enter Tryd.func14, Tryd.ntmps14
  go_upto_region 2 with fail
  rw [← hw0]
  clear hw0 ho0
  obtain ⟨n0, hn0⟩ : ∃ n0, n0 = w.heap.size := ⟨_, rfl⟩
  unfold PostD
  rw [← hn0] at E0 Z0 O0 L0 A0 B0 ⊢
  have HB : Hid (n0 = w.heap.size) := hn0
  clear hn0
  go_wp2
  go_loopw [6] (fun v wr => ∃ (done r acc : Fs) (o : Nat → Nat) (va : Value), Hid (e.kids = done.app r) ∧ Hid (sameF acc done = true) ∧ v = .int .i64 (done.len : Nat) ∧ Blk wr o 0 n0 (.cells #[.int .i64 e.k, .int .i64 e.n, stv e.nm, .slice ao e.kids.len cap, .int .i64 e.a] 24) ∧ Blk wr o 3 (n0 + 1) (.cells #[.int .i64 0, .int .i64 0, .string ⟨#[]⟩, .slice none 0 0, .int .i64 0] 24) ∧ Blk wr o 1 (n0 + 1 + 1) (.cells #[.int .i64 e.k, .int .i64 e.n, stv e.nm, va, .int .i64 d] 24) ∧ AccL wr o n0 acc va ∧ Hid (∀ k, k < n0 → o k = 0) ∧ Below n0 w wr) (fun v _ => e.kids.len - (intOf v).toNat)
  case atStart => exact ⟨.nil, e.kids, .nil, o0, .slice none 0 0, rfl, rfl, by show _ = Value.int .i64 ((0 : Nat) : Int); rfl, E0, Z0, O0, A0, L0, B0⟩
  case round =>
    clear E0 Z0 O0 A0 L0 B0
    obtain ⟨done, r, acc, o, va, hk, hsm, rfl, E1, Z1, O1, A1, L1, B1⟩ := hrel
    have hlk : e.kids.len = done.len + r.len := by rw [hk.out, Fs.len_app]
    obtain ⟨p0, p1, p2, p3, p4, pf⟩ := box5 E1.1
    have hdl : acc.len = done.len := sameF_len2 hsm.out
    cases r using Fs.on with
    | nil =>
      have hl0 : ¬ (done.len : Int) < (e.kids.len : Int) := by simp only [Fs.len] at hlk; omega
      have hdn : e.kids = done := by rw [hk.out]; clear hk hlk hl0 A1; exact app_nil' done
      have hkd : Hid (sameE ⟨e.k, e.n, e.nm, d, acc⟩ e = true) := by show _ = true; simp only [sameE, hdn, hsm.out]; simp
      obtain ⟨a1, c1, rfl, SL⟩ := A1.sl L1.out
      rw [hdl] at O1
      have SE := SL.mono (w' := ((((wr.setCell ⟨n0 + 1, 0, none⟩ (.int .i64 e.k)).setCell ⟨n0 + 1, 1, none⟩ (.int .i64 e.n)).setCell ⟨n0 + 1, 2, none⟩ (stv e.nm)).setCell ⟨n0 + 1, 3, none⟩ (.slice a1 done.len c1)).setCell ⟨n0 + 1, 4, none⟩ (.int .i64 d)) (Q := Nw n0) (fun i hp hl => heap_set5 wr (n0 + 1) i _ _ _ _ _ (fun ee => by
        have h2 := Z1.2
        rw [← ee] at h2
        rcases hp.2 with h | h <;> omega)) (by simp) (fun i hp _ => hp.1)
      have BE := ((((B1.setCell (p := ⟨n0 + 1, 0, none⟩) (Nat.le_succ _) (.int .i64 e.k)).setCell (p := ⟨n0 + 1, 1, none⟩) (Nat.le_succ _) (.int .i64 e.n)).setCell (p := ⟨n0 + 1, 2, none⟩) (Nat.le_succ _) (stv e.nm)).setCell (p := ⟨n0 + 1, 3, none⟩) (Nat.le_succ _) (.slice a1 done.len c1)).setCell (p := ⟨n0 + 1, 4, none⟩) (Nat.le_succ _) (.int .i64 d)
      have ZE := set5k (.int .i64 e.k) (.int .i64 e.n) (stv e.nm) (.slice a1 done.len c1) (.int .i64 d) Z1.1
      have HU : Hid (∃ wz, wz = ((((wr.setCell ⟨n0 + 1, 0, none⟩ (.int .i64 e.k)).setCell ⟨n0 + 1, 1, none⟩ (.int .i64 e.n)).setCell ⟨n0 + 1, 2, none⟩ (stv e.nm)).setCell ⟨n0 + 1, 3, none⟩ (.slice a1 done.len c1)).setCell ⟨n0 + 1, 4, none⟩ (.int .i64 d) ∧ wz.cell? ⟨n0 + 1, 0, none⟩ = some (.int .i64 e.k) ∧ wz.cell? ⟨n0 + 1, 1, none⟩ = some (.int .i64 e.n) ∧ wz.cell? ⟨n0 + 1, 2, none⟩ = some (stv e.nm) ∧ wz.cell? ⟨n0 + 1, 3, none⟩ = some (.slice a1 done.len c1) ∧ wz.cell? ⟨n0 + 1, 4, none⟩ = some (.int .i64 d) ∧ Sl wz (Nw n0) acc a1 ∧ Below n0 w wz) := by
        obtain ⟨u0, u1, u2, u3, u4, -⟩ := box5 ZE
        exact ⟨_, rfl, u0, u1, u2, u3, u4, SE, BE⟩
      obtain ⟨u0, u1, u2, u3, u4, uf⟩ := box5 O1.1
      obtain ⟨z0, z1, z2, z3, z4, zf⟩ := box5 Z1.1
      clear hlk SL SE BE ZE E1 Z1 O1 L1 B1 hdn hk
      go_wp2
      obtain ⟨wz, hwz, v0, v1, v2, v3, v4, SZ, BZ⟩ := HU.out
      clear HU
      rw [← hwz]
      clear hwz
      refine bodyPost_ret (v := exV ⟨e.k, e.n, e.nm, d, acc⟩ a1 c1) (by simp [results, Tryd.results14, go_sem, v0, v1, v2, v3, v4, exV, hdl]) rfl ⟨⟨e.k, e.n, e.nm, d, acc⟩, a1, c1, rfl, hkd.out, by rw [← HB.out]; exact SZ, by rw [← HB.out]; exact BZ⟩
    | cons kk kn km ka kks kr =>
      have hl0 : (done.len : Int) < (e.kids.len : Int) := by simp only [Fs.len] at hlk; omega
      have hl1 : done.len < e.kids.len := by omega
      have hsz : e.kids.size = done.size + (kks.size + kr.size + 1) := by rw [hk.out, Fs.size_app]; rfl
      have hsk : (Fs.cons kk kn km ka kks kr).short := Fs.app_short (by rw [← hk.out]; exact hsh)
      have hn0 : n0 ≤ wr.heap.size := by have := E1.lt; omega
      obtain ⟨b, off, ak, ck, hao, lb1, -, x0, x1, x2, x3, x4, SK⟩ := Sl.kidQ (by rw [← hk.out]; exact SlA.below S (by rw [← HB.out]; exact B1))
      subst hao
      have hc : ∀ d2 : Int, -9223372036854775808 ≤ d2 → d2 ≤ 9223372036854775807 → Calls Tryd.prog 14 #[exV ⟨kk, kn, km, ka, kks⟩ ak ck, .int .i64 d2] wr (PostD wr ⟨kk, kn, km, ka, kks⟩) := fun d2 r1 r2 => IH ⟨kk, kn, km, ka, kks⟩ ak ck d2 wr (by show kks.size < N; omega) hsk.2.1 hsk.2.2.1 r1 r2 SK
      rw [exV_out] at hc
      simp only at hc
      have hk2 : Hid (e.kids = (done.snoc ⟨kk, kn, km, ka, kks⟩).app kr) := by show e.kids = _; rw [hk.out]; unfold Fs.snoc; rw [Fs.app_assoc]; rfl
      have hl2 : (done.len : Int) + 1 = ((done.snoc ⟨kk, kn, km, ka, kks⟩).len : Nat) := by rw [Fs.len_snoc]; rfl
      clear hlk hsz hsk SK
      go_wp2_with fail
      refine (hc _ ?w1 ?w2).mono ?_
      case w1 => first | (unfold wrap64; omega) | (unfold Go.IntWalk.wrap64; omega)
      case w2 => first | (unfold wrap64; omega) | (unfold Go.IntWalk.wrap64; omega)
      rintro x w6 ⟨y, ak6, ck6, rfl, hsy, S6, b6⟩
      have HS : Hid (sameF (acc.snoc y) (done.snoc ⟨kk, kn, km, ka, kks⟩) = true) := sameF_snoc hsm.out hsy
      clear hsy
      have s6 : Step (fun _ => False) wr o w6 (newLab wr o 0) := ((Step.refl _ wr o).labelled 0).trans (Step.ofB (newLab wr o 0) b6)
      have T6 : Sl w6 (N0 n0 (newLab wr o 0)) y.kids ak6 := S6.mono (fun _ _ _ => rfl) (Nat.le_refl _) (fun i hp hl => ⟨Nat.le_trans hn0 hp, newLab_new hp⟩)
      have L6 : Hid (∀ k, k < n0 → newLab wr o 0 k = 0) := fun k hk => by rw [newLab_old (by omega)]; exact L1.out k hk
      have E6 := E1.step s6 id
      have Z6 := Z1.step s6 id
      have O6 := O1.step s6 id
      have A6 := A1.step s6 id id
      have B6 := below_stepB B1 s6 (fun _ _ => id) (by rw [HB.out]; exact Nat.le_refl _)
      generalize newLab wr o 0 = o6 at *
      clear hc S6 b6 s6 E1 Z1 O1 A1 B1 L1 x0 x1 x2 x3 x4 p0 p1 p2 p3 p4 pf
      have s7 := boxStep (fun _ => False) w6 o6 (.cells #[.int .i64 y.k, .int .i64 y.n, stv y.nm, .slice ak6 y.kids.len ck6, .int .i64 y.a] 24)
      have K7 := boxBlk w6 o6 #[.int .i64 y.k, .int .i64 y.n, stv y.nm, .slice ak6 y.kids.len ck6, .int .i64 y.a] 24
      have T7 := T6.lab s7 id
      have hs6 : n0 ≤ w6.heap.size := by have := E6.lt; omega
      have L7 : Hid (∀ k, k < n0 → newLab w6 o6 0 k = 0) := fun k hk => by rw [newLab_old (by omega)]; exact L6.out k hk
      have E7 := E6.step s7 id
      have Z7 := Z6.step s7 id
      have O7 := O6.step s7 id
      have A7 := A6.step s7 id id
      have B7 := below_stepB B6 s7 (fun _ _ => id) (by rw [HB.out]; exact Nat.le_refl _)
      rw [exV_out]
      go_upto_region 6 with fail
      generalize newLab w6 o6 0 = o7 at *
      generalize w6.alloc (.cells #[.int .i64 y.k, .int .i64 y.n, stv y.nm, .slice ak6 y.kids.len ck6, .int .i64 y.a] 24) = w7 at *
      generalize w6.heap.size = bk at *
      clear s7 T6 E6 Z6 O6 A6 B6 L6
      obtain ⟨p0, p1, p2, p3, p4, pf⟩ := box5 O7.1
      obtain ⟨q0, q1, q2, q3, q4, qf⟩ := box5 K7.1
      have s8 := boxStep (fun _ => False) w7 o7 (.cells #[.int .i64 y.k, .int .i64 y.n, stv y.nm, .slice ak6 y.kids.len ck6, .int .i64 y.a] 24)
      have T8 := T7.lab s8 id
      have L8 : Hid (∀ k, k < n0 → newLab w7 o7 0 k = 0) := fun k hk => by rw [newLab_old (by have := E7.lt; omega)]; exact L7.out k hk
      have E8 := E7.step s8 id
      have Z8 := Z7.step s8 id
      have O8 := O7.step s8 id
      have A8 := A7.step s8 id id
      have B8 := below_stepB B7 s8 (fun _ _ => id) (by rw [HB.out]; exact Nat.le_refl _)
      obtain ⟨xs, R8, F8⟩ := A8
      rw [hdl] at R8
      obtain ⟨a8, c8, rfl⟩ := R8.form
      have b1 : done.len + 1 ≤ maxLen := by unfold maxLen; omega
      have b2 : (done.len + 1) * 64 ≤ 140737488355328 := by omega
      have hone : ∀ u ∈ [Value.int .i64 y.k, .int .i64 y.n, stv y.nm, .slice ak6 y.kids.len ck6, .int .i64 y.a], u.oneCell' = true := by intro u hu; simp at hu; rcases hu with rfl | rfl | rfl | rfl | rfl <;> rfl
      clear E7 Z7 O7 A7 B7 L7 T7 s8
      go_wp2_with (first | (at_builtin; refine wpList_append_lab rfl (.tmp 33) (.tmp 35) 22 rfl 24 ii _ 5 64 Tryd.underlying22 hii hzi0 hzi1 hzi2 rfl (by decide) (newLab w7 o7 0) 2 _ done.len xs rfl R8 ⟨w7.heap.size, 0, none⟩ 1 1 [Value.int .i64 y.k, .int .i64 y.n, stv y.nm, .slice ak6 y.kids.len ck6, .int .i64 y.a] rfl rfl (new_cells_at w7 _ _) hone (by decide) b1 b2 ?_) | go_in)
      intro g9 c9 w9 o9 r9 s9
      have A9 : AccL w9 o9 n0 (acc.snoc y) (.slice (some ⟨g9, 0, none⟩) (done.len + 1) c9) := AccL.push F8 T8 s9 (by rw [hdl]; exact r9)
      have E9 := E8.step s9 (by decide)
      have Z9 := Z8.step s9 (by decide)
      have O9 := O8.step s9 (by decide)
      have L9 : Hid (∀ k, k < n0 → o9 k = 0) := fun k hk => (s9.lab k (by have := E8.lt; omega)).trans (L8.out k hk)
      have B9 := below_stepB B8 s9 (fun k hk => by rw [L8.out k hk]; decide) (by rw [HB.out]; exact Nat.le_refl _)
      have s10 : Step (fun k => k = 1) w9 o9 (w9.setCell ⟨n0 + 1 + 1, 3, none⟩ (.slice (some ⟨g9, 0, none⟩) (done.len + 1) c9)) o9 := setStep _ w9 o9 ⟨n0 + 1 + 1, 3, none⟩ _ O9.2
      have A10 := A9.step s10 (by decide) (by decide)
      have E10 := E9.step s10 (by decide)
      have Z10 := Z9.step s10 (by decide)
      have O10 := O9.set 3 (.slice (some ⟨g9, 0, none⟩) (done.len + 1) c9)
      have B10 := below_stepB B9 s10 (fun k hk => by rw [L9.out k hk]; decide) (by rw [HB.out]; exact Nat.le_refl _)
      obtain ⟨t0, t1, t2, t3, t4, tf⟩ := box5 O9.1
      clear A9 E9 Z9 O9 B9 s10 E8 Z8 O8 B8 L8 T8 R8 F8 r9 s9 p0 p1 p2 p3 p4 pf q0 q1 q2 q3 q4 qf hk K7
      go_wp2
      go_roundw
      case rel => exact ⟨_, kr, _, o9, _, hk2, HS, by rw [← hl2], E10, Z10, O10, A10, L9, B10⟩
      case measure => simp [intOf]; omega
theorem moved_ok : ∀ N, MovedOk N
  | 0 => fun e ao cap d w h => absurd h (Nat.not_lt_zero _)
  | N + 1 => moved_step (moved_ok N)
end Go.Proofs.YtlmeonpdjcophaaDoor
