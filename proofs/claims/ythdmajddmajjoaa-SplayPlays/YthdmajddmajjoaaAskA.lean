/- One side of the law SplayPlays: All, whose lists are kept. -/
import Derived.Test.YthdmajddmajjoaaSideA
import Derived.Deep.RegionHeld
namespace Go.Proofs.Ythdmajddmajjoaa
open Go.ChangeShapes Go.WideShapes Go.ChangeAt Go.RowKit
set_option linter.unusedVariables false
set_option linter.unusedSimpArgs false

set_option maxRecDepth 100000 in
set_option maxHeartbeats 2000000 in
theorem ask12n {w : World} {o : Nat → Nat} {D ps p q room M : Nat} {s : Sta} {va vw : Value} {als wls : List Value} {ls : List (List Nat)} (h : Sd w o D ps p q room M s va vw) (h2 : Row w o (D + 1) 60 1 va als.length als) (h3 : Row w o (D + 2) 60 1 vw wls.length wls) (h4 : Lists w o D als wls ls) (hN : ls.length < 30) (u : OpX) (hk : u.kd = 12) (xs : List Nat) (r : Int) (hxs : xs.length ≤ 1024)
    (A : ∀ w o L p lb, ¬ FL L lb → FoS w o L p room s → Calls Try.prog 34 #[pv p, .int .i64 u.a] w fun e w' => ∃ va o', e = .returned (.tuple #[va, .int .i64 r]) ∧ Row w' o' lb 3 1 va xs.length (intsL xs) ∧ FoS w' o' L p room s ∧ Step (fun k => FL L k ∨ k = lb) w o w' o')
    (X : ∀ w o R q lb, ¬ XL R lb → RxS w o R q room M s → Calls Try.prog 35 #[pv q, .int .i64 u.a] w fun e w' => ∃ va o', e = .returned (.tuple #[va, .int .i64 r]) ∧ Row w' o' lb 3 1 va xs.length (intsL xs) ∧ RxS w' o' R q room M s ∧ Step (fun k => k = lb) w o w' o') :
    Calls Try.prog 8 #[pv ps, opxV u] w fun e w' => e = .returned (.bool true) ∧ ∃ o', SA w' o' D ps p q room M s ∧ Step (SAL D) w o w' o' := by
  obtain ⟨kd, qa, qb, qv, qc, qf, qo⟩ := u
  simp only at hk A X
  subst hk
  have hla := h4.la
  have hlw := h4.lw
  have hle := h4.le
  obtain ⟨N, hNe⟩ : ∃ N, N = ls.length := ⟨_, rfl⟩
  have eA : als.length = N := by omega
  have eW : wls.length = N := by omega
  rw [eA] at h2
  rw [eW] at h3
  rw [← hNe] at hN hle
  obtain ⟨m, hm⟩ : ∃ m, m = xs.length := ⟨_, rfl⟩
  rw [← hm] at A X hxs
  have HNe : Hid (N = ls.length) := hNe
  have HM : Hid (m = xs.length) := hm
  obtain ⟨is, his, hzs0, hzs1, hzs2⟩ := info_parts infoSl
  obtain ⟨la, hla'⟩ : ∃ la, la = D + 20 + N := ⟨_, rfl⟩
  obtain ⟨lb, hlb'⟩ : ∃ lb, lb = D + 60 + N := ⟨_, rfl⟩
  have hl1 : D + 20 ≤ la ∧ la < D + 60 ∨ la = D + 95 := by omega
  have hl2 : D + 60 ≤ lb ∧ lb < D + 95 ∨ lb = D + 96 := by omega
  have hl3 : ∀ i, i < N → la ≠ D + 20 + i ∧ la ≠ D + 60 + i ∧ lb ≠ D + 20 + i ∧ lb ≠ D + 60 + i := fun i hi => by omega
  have HL1 : Hid (la = D + 20 + N) := hla'
  have HL2 : Hid (lb = D + 60 + N) := hlb'
  obtain ⟨J, hJ⟩ : ∃ J : Nat → Prop, J = fun k => SDL D k ∨ k = la ∨ k = lb := ⟨_, rfl⟩
  have jn : ∀ k, k < D + 100 → k ≠ la → k ≠ lb → ¬ J k := fun k h1 h2 h3 hh => by
    rw [hJ] at hh
    rcases hh with hh | hh | hh
    · have := hh.low; omega
    · exact h2 hh
    · exact h3 hh
  have jF : ∀ k, FL (D + 100) k ∨ k = la → J k := fun k hh => by rw [hJ]; exact hh.elim (fun x => .inl (.inl x)) (fun x => .inr (.inl x))
  have jX : ∀ k, k = lb → J k := fun k hh => by rw [hJ]; exact .inr (.inr hh)
  have jA : ∀ k, J k → SAL D k := fun k hh => by
    rw [hJ] at hh
    rcases hh with hh | hh | hh
    · exact SAL.of hh
    · exact SAL.mk (by omega) (by omega)
    · exact SAL.mk (by omega) (by omega)
  have s1 := newStep (fun _ => False) w o (D + 3) (opxObj ⟨12, qa, qb, qv, qc, qf, qo⟩)
  have B1 : Blk (w.alloc (opxObj ⟨12, qa, qb, qv, qc, qf, qo⟩)) (newLab w o (D + 3)) (D + 3) w.heap.size (opxObj ⟨12, qa, qb, qv, qc, qf, qo⟩) := ⟨heap_alloc_new w _, newLab_new (Nat.le_refl _)⟩
  have k1 := h.blk.step s1 id
  have f1 := h.f.step s1 (fun _ _ => id)
  have x1 := h.x.step s1 (fun _ _ => id)
  have HC : Hid (∀ wx ox, Step J (w.alloc (opxObj ⟨12, qa, qb, qv, qc, qf, qo⟩)) (newLab w o (D + 3)) wx ox → wx.cell? ⟨ps, 0, none⟩ = some (pv p) ∧ wx.cell? ⟨ps, 1, none⟩ = some (pv q) ∧ wx.cell? ⟨w.heap.size, 1, none⟩ = some (.int .i64 qa)) := fun wx ox st => by
    obtain ⟨e0, e1, -, -, -⟩ := (k1.step st (jn _ (by omega) (by omega) (by omega))).cells4
    obtain ⟨-, g1, -, -, -, -, -, -⟩ := (B1.step st (jn _ (by omega) (by omega) (by omega))).cells7x
    exact ⟨e0, e1, g1⟩
  have HE : Hid (∀ w3 o3, Step J (w.alloc (opxObj ⟨12, qa, qb, qv, qc, qf, qo⟩)) (newLab w o (D + 3)) w3 o3 → Blk w3 o3 D ps (.cells #[pv p, pv q, va, vw] 34 (0, 0)) ∧ Row w3 o3 (D + 1) 60 1 va N als ∧ Row w3 o3 (D + 2) 60 1 vw N wls ∧ Lists w3 o3 D als wls ls ∧ Step (SAL D) w o w3 o3) := fun w3 o3 st => ⟨k1.step st (jn _ (by omega) (by omega) (by omega)), (h2.step s1 id).step st (jn _ (by omega) (by omega) (by omega)), (h3.step s1 id).step st (jn _ (by omega) (by omega) (by omega)), Lists.stepN (h4.step s1 (fun _ _ _ => id)) st (fun i hi => by have g := hl3 i (by rw [HNe.out]; exact hi); have h30 := hle; exact ⟨jn _ (by omega) (fun e => g.1 e.symm) (fun e => g.2.2.1 e.symm), jn _ (by omega) (fun e => g.2.1 e.symm) (fun e => g.2.2.2 e.symm)⟩), (s1.mono fun _ hh => hh.elim).trans (st.mono jA)⟩
  have d1 : Step (fun _ => False) (w.alloc (opxObj ⟨12, qa, qb, qv, qc, qf, qo⟩)) (newLab w o (D + 3)) (w.alloc (opxObj ⟨12, qa, qb, qv, qc, qf, qo⟩)).drew (newLab w o (D + 3)) := (Step.refl _ _ _).drew
  have t1 : Step J (w.alloc (opxObj ⟨12, qa, qb, qv, qc, qf, qo⟩)) (newLab w o (D + 3)) (w.alloc (opxObj ⟨12, qa, qb, qv, qc, qf, qo⟩)).drew (newLab w o (D + 3)) := d1.mono fun _ hh => hh.elim
  have f2 := f1.step d1 (fun _ _ => id)
  have x2 := x1.step d1 (fun _ _ => id)
  have nF : ¬ FL (D + 100) la := fun hh => by have := hh.1; omega
  have nX : ¬ XL (D + 10000) lb := fun hh => by have := hh.1; omega
  have nXA : ∀ k, XL (D + 10000) k → ¬ (FL (D + 100) k ∨ k = la) := fun k hk hh => by
    have a1 := hk.1
    rcases hh with hh | hh
    · have := hh.2; omega
    · omega
  have nFB : ∀ k, FL (D + 100) k → ¬ k = lb := fun k hk e => by have := hk.1; omega
  obtain ⟨c0, c1, c2, c3, c4, c5, c6, cf⟩ := B1.cells7x
  have hfm := h2.form
  obtain ⟨ava, cva, rfl⟩ := hfm
  have hfm := h3.form
  obtain ⟨avw, cvw, rfl⟩ := hfm
  clear h s1 B1 k1 f1 x1 d1 h2 h3 h4 hNe hm hla hlw hla' hlb' hJ hl3 eA eW
  simp only [opxV, pv, opxObj] at *
  go_enter Try.func8, Try.ntmps8
  go_wp2_with fail
  go_region_held (fun wx => wx.cell? ⟨ps, 0, none⟩ = some (.pointer (some ⟨p, 0, none⟩)) ∧ wx.cell? ⟨ps, 1, none⟩ = some (.pointer (some ⟨q, 0, none⟩)) ∧ wx.cell? ⟨w.heap.size, 1, none⟩ = some (.int .i64 qa)) (first | (with_reducible exact HC.out _ _ t2) | (with_reducible exact HC.out _ _ t1)) ((go_at_call 34; refine (A _ _ _ _ la nF f2).mono ?_; rintro e w2 ⟨v2, o2, rfl, R2, F2, S2⟩; have t2 := t1.trans (S2.mono jF)))
  all_goals
    have d2 : Step (fun _ => False) w2 o2 w2.drew o2 := (Step.refl _ _ _).drew
    have t2d := t2.trans (d2.mono (J := J) fun _ hh => hh.elim)
    have F2d := F2.step d2 (fun _ _ => id)
    have R2d := R2.step d2 id
    have x3 := (x2.step S2 nXA).step d2 (fun _ _ => id)
    obtain ⟨a2, k2, rfl⟩ := R2.form
    have cc := HC.out _ _ t2
    clear f2 x2 F2 S2 t2 d2 A R2
    go_wp2_with fail
    go_region_held (fun wx => wx.cell? ⟨ps, 0, none⟩ = some (.pointer (some ⟨p, 0, none⟩)) ∧ wx.cell? ⟨ps, 1, none⟩ = some (.pointer (some ⟨q, 0, none⟩)) ∧ wx.cell? ⟨w.heap.size, 1, none⟩ = some (.int .i64 qa)) (first | (with_reducible exact HC.out _ _ t3) | (with_reducible exact HC.out _ _ t2d)) ((go_at_call 35; refine (X _ _ _ _ lb nX x3).mono ?_; rintro e w3 ⟨v3, o3, rfl, R3, X3, S3⟩; have t3 := t2d.trans (S3.mono jX)))
    all_goals
      obtain ⟨a3, k3, rfl⟩ := R3.form
      obtain ⟨g0, gA, gW, gL, t4⟩ := HE.out _ _ t3
      have F3 := F2d.step S3 nFB
      have R23 := R2d.step S3 (by omega)
      clear HE HC t1 t2d t3 F2d x3 S3 X cc R2d jn jF jX jA
      obtain ⟨c0, c1, c2, c3, hf⟩ := g0.cells4
      have b1 : N + 1 ≤ maxLen := by unfold maxLen; omega
      go_wp2_with (first | (at_builtin; refine wpList_append_lab rfl (.tmp 260) (.tmp 262) 32 rfl 60 is (.slice none 0 0) 1 24 Try.underlying32 his hzs0 hzs1 hzs2 rfl (by decide) o3 (D + 1) _ N als rfl (gA.step (allocStep (fun _ => False) _ o3 _) (by simp)) ⟨w3.heap.size, 0, none⟩ 1 1 [.slice a2 m k2] rfl rfl (new_one_at (by simp) _ _) (one_slice _ _ _) (by decide) b1 (by omega) ?_) | go_in)
      intro g5 c5 w5 o5 r5 s5
      have t5 := (allocStep (fun x => x = D + 1) w3 o3 _).trans s5
      have q0 := g0.step t5 (by omega)
      have s6 := setStep (fun x => x = D) w5 o5 ⟨ps, 2, none⟩ (.slice (some ⟨g5, 0, none⟩) (N + 1) c5) q0.2
      have k0 := q0.set 2 (.slice (some ⟨g5, 0, none⟩) (N + 1) c5)
      have kF := (F3.step t5 (fun k hk => by have := hk.1; omega)).step s6 (fun k hk => by have := hk.1; omega)
      have kX := (X3.step t5 (fun k hk => by have := hk.1; omega)).step s6 (fun k hk => by have := hk.1; omega)
      have kA := r5.step s6 (by omega)
      have kW := (gW.step t5 (by omega)).step s6 (by omega)
      have k2' := (R23.step t5 (by omega)).step s6 (by omega)
      have k3' := (R3.step t5 (by omega)).step s6 (by omega)
      have kL := (gL.step t5 (by omega)).step s6 (by omega)
      have t6 : Step (SAL D) w o (w5.setCell ⟨ps, 2, none⟩ (.slice (some ⟨g5, 0, none⟩) (N + 1) c5)) o5 := (t4.trans (t5.mono fun k hk => SAL.mk (by omega) (by omega))).trans (s6.mono fun k hk => SAL.mk (by omega) (by omega))
      clear g0 gA gW gL t4 t5 s5 r5 R23 R3 F3 X3 s6 c0 c1 c2 c3 hf
      obtain ⟨c0, c1, c2, c3, hf⟩ := q0.cells4
      clear q0
      go_upto_region 31 with fail
      generalize w5.setCell ⟨ps, 2, none⟩ (.slice (some ⟨g5, 0, none⟩) (N + 1) c5) = w6 at k0 kF kX kA kW k2' k3' kL t6 ⊢
      clear c0 c1 c2 c3 hf
      obtain ⟨c0, c1, c2, c3, hf⟩ := Blk.cells4 k0
      go_wp2_with (first | (at_builtin; refine wpList_append_lab rfl (.tmp 270) (.tmp 272) 32 rfl 60 is (.slice none 0 0) 1 24 Try.underlying32 his hzs0 hzs1 hzs2 rfl (by decide) o5 (D + 2) _ N wls rfl (kW.step (allocStep (fun _ => False) _ o5 _) (by simp)) ⟨w6.heap.size, 0, none⟩ 1 1 [.slice a3 m k3] rfl rfl (new_one_at (by simp) _ _) (one_slice _ _ _) (by decide) b1 (by omega) ?_) | go_in)
      intro g7 c7 w7 o7 r7 s7
      have t7 := (allocStep (fun x => x = D + 2) w6 o5 _).trans s7
      have q0 := k0.step t7 (by omega)
      have s8 := setStep (fun x => x = D) w7 o7 ⟨ps, 3, none⟩ (.slice (some ⟨g7, 0, none⟩) (N + 1) c7) q0.2
      have m0 := q0.set 3 (.slice (some ⟨g7, 0, none⟩) (N + 1) c7)
      have mF := (kF.step t7 (fun k hk => by have := hk.1; omega)).step s8 (fun k hk => by have := hk.1; omega)
      have mX := (kX.step t7 (fun k hk => by have := hk.1; omega)).step s8 (fun k hk => by have := hk.1; omega)
      have mA := (kA.step t7 (by omega)).step s8 (by omega)
      have mW := r7.step s8 (by omega)
      have m2 := (k2'.step t7 (by omega)).step s8 (by omega)
      have m3 := (k3'.step t7 (by omega)).step s8 (by omega)
      have mL := (kL.step t7 (by omega)).step s8 (by omega)
      have t8 : Step (SAL D) w o (w7.setCell ⟨ps, 3, none⟩ (.slice (some ⟨g7, 0, none⟩) (N + 1) c7)) o7 := (t6.trans (t7.mono fun k hk => SAL.mk (by omega) (by omega))).trans (s8.mono fun k hk => SAL.mk (by omega) (by omega))
      have mL2 := Lists.push (l := xs) mL (by rw [← HNe.out]; exact hN) (by rw [← HM.out]; omega) (by rw [← HNe.out, ← HM.out, ← HL1.out]; exact m2) (by rw [← HNe.out, ← HM.out, ← HL2.out]; exact m3)
      have hLa : N + 1 = (als ++ [Value.slice a2 m k2]).length := by rw [mL2.la, List.length_append, ← HNe.out]; rfl
      have hLw : N + 1 = (wls ++ [Value.slice a3 m k3]).length := by rw [mL2.lw, List.length_append, ← HNe.out]; rfl
      have E : SA (w7.setCell ⟨ps, 3, none⟩ (.slice (some ⟨g7, 0, none⟩) (N + 1) c7)) o7 D ps p q room M s := ⟨_, _, _, _, _, ⟨m0, mF, mX⟩, by rw [← hLa]; exact mA, by rw [← hLw]; exact mW, mL2⟩
      clear mL mL2 hLa hLw mA mW mF mX m0 s8 t7 s7 r7 kF kX kA kW k2' k3' kL t6 k0 c0 c1 c2 c3 hf
      obtain ⟨c0, c1, c2, c3, hf⟩ := q0.cells4
      clear q0
      go_wp2_with fail
      refine (same_yes _ o7 o7 _ _ m xs _ _ HM.out.symm (by omega) m2 m3).mono ?_
      rintro e w9 ⟨rfl, m9, rfl⟩
      clear m2 m3 c0 c1 c2 c3 hf
      go_wp2
      go_ret
      exact ⟨ret_bool (by simp), o7, E.step ((Step.refl (fun _ => False) _ o7).drewN m9) (fun _ _ => id), t8.drewN m9⟩
set_option maxRecDepth 100000 in
set_option maxHeartbeats 2000000 in
theorem ask12o {w : World} {o : Nat → Nat} {D ps p q room M : Nat} {s : Sta} {va vw : Value} {als wls : List Value} {ls : List (List Nat)} (h : Sd w o D ps p q room M s va vw) (h2 : Row w o (D + 1) 60 1 va als.length als) (h3 : Row w o (D + 2) 60 1 vw wls.length wls) (h4 : Lists w o D als wls ls) (hN : ¬ ls.length < 30) (u : OpX) (hk : u.kd = 12) (xs : List Nat) (r : Int) (hxs : xs.length ≤ 1024)
    (A : ∀ w o L p lb, ¬ FL L lb → FoS w o L p room s → Calls Try.prog 34 #[pv p, .int .i64 u.a] w fun e w' => ∃ va o', e = .returned (.tuple #[va, .int .i64 r]) ∧ Row w' o' lb 3 1 va xs.length (intsL xs) ∧ FoS w' o' L p room s ∧ Step (fun k => FL L k ∨ k = lb) w o w' o')
    (X : ∀ w o R q lb, ¬ XL R lb → RxS w o R q room M s → Calls Try.prog 35 #[pv q, .int .i64 u.a] w fun e w' => ∃ va o', e = .returned (.tuple #[va, .int .i64 r]) ∧ Row w' o' lb 3 1 va xs.length (intsL xs) ∧ RxS w' o' R q room M s ∧ Step (fun k => k = lb) w o w' o') :
    Calls Try.prog 8 #[pv ps, opxV u] w fun e w' => e = .returned (.bool true) ∧ ∃ o', SA w' o' D ps p q room M s ∧ Step (SAL D) w o w' o' := by
  obtain ⟨kd, qa, qb, qv, qc, qf, qo⟩ := u
  simp only at hk A X
  subst hk
  have hla := h4.la
  have hlw := h4.lw
  have hle := h4.le
  obtain ⟨N, hNe⟩ : ∃ N, N = ls.length := ⟨_, rfl⟩
  have eA : als.length = N := by omega
  have eW : wls.length = N := by omega
  rw [eA] at h2
  rw [eW] at h3
  rw [← hNe] at hN hle
  obtain ⟨m, hm⟩ : ∃ m, m = xs.length := ⟨_, rfl⟩
  rw [← hm] at A X hxs
  have HNe : Hid (N = ls.length) := hNe
  have HM : Hid (m = xs.length) := hm
  obtain ⟨is, his, hzs0, hzs1, hzs2⟩ := info_parts infoSl
  obtain ⟨la, hla'⟩ : ∃ la, la = D + 95 := ⟨_, rfl⟩
  obtain ⟨lb, hlb'⟩ : ∃ lb, lb = D + 96 := ⟨_, rfl⟩
  have hl1 : D + 20 ≤ la ∧ la < D + 60 ∨ la = D + 95 := by omega
  have hl2 : D + 60 ≤ lb ∧ lb < D + 95 ∨ lb = D + 96 := by omega
  have hl3 : ∀ i, i < N → la ≠ D + 20 + i ∧ la ≠ D + 60 + i ∧ lb ≠ D + 20 + i ∧ lb ≠ D + 60 + i := fun i hi => by omega
  have HL1 : Hid (la = D + 95) := hla'
  have HL2 : Hid (lb = D + 96) := hlb'
  obtain ⟨J, hJ⟩ : ∃ J : Nat → Prop, J = fun k => SDL D k ∨ k = la ∨ k = lb := ⟨_, rfl⟩
  have jn : ∀ k, k < D + 100 → k ≠ la → k ≠ lb → ¬ J k := fun k h1 h2 h3 hh => by
    rw [hJ] at hh
    rcases hh with hh | hh | hh
    · have := hh.low; omega
    · exact h2 hh
    · exact h3 hh
  have jF : ∀ k, FL (D + 100) k ∨ k = la → J k := fun k hh => by rw [hJ]; exact hh.elim (fun x => .inl (.inl x)) (fun x => .inr (.inl x))
  have jX : ∀ k, k = lb → J k := fun k hh => by rw [hJ]; exact .inr (.inr hh)
  have jA : ∀ k, J k → SAL D k := fun k hh => by
    rw [hJ] at hh
    rcases hh with hh | hh | hh
    · exact SAL.of hh
    · exact SAL.mk (by omega) (by omega)
    · exact SAL.mk (by omega) (by omega)
  have s1 := newStep (fun _ => False) w o (D + 3) (opxObj ⟨12, qa, qb, qv, qc, qf, qo⟩)
  have B1 : Blk (w.alloc (opxObj ⟨12, qa, qb, qv, qc, qf, qo⟩)) (newLab w o (D + 3)) (D + 3) w.heap.size (opxObj ⟨12, qa, qb, qv, qc, qf, qo⟩) := ⟨heap_alloc_new w _, newLab_new (Nat.le_refl _)⟩
  have k1 := h.blk.step s1 id
  have f1 := h.f.step s1 (fun _ _ => id)
  have x1 := h.x.step s1 (fun _ _ => id)
  have HC : Hid (∀ wx ox, Step J (w.alloc (opxObj ⟨12, qa, qb, qv, qc, qf, qo⟩)) (newLab w o (D + 3)) wx ox → wx.cell? ⟨ps, 0, none⟩ = some (pv p) ∧ wx.cell? ⟨ps, 1, none⟩ = some (pv q) ∧ wx.cell? ⟨w.heap.size, 1, none⟩ = some (.int .i64 qa)) := fun wx ox st => by
    obtain ⟨e0, e1, -, -, -⟩ := (k1.step st (jn _ (by omega) (by omega) (by omega))).cells4
    obtain ⟨-, g1, -, -, -, -, -, -⟩ := (B1.step st (jn _ (by omega) (by omega) (by omega))).cells7x
    exact ⟨e0, e1, g1⟩
  have HE : Hid (∀ w3 o3, Step J (w.alloc (opxObj ⟨12, qa, qb, qv, qc, qf, qo⟩)) (newLab w o (D + 3)) w3 o3 → Blk w3 o3 D ps (.cells #[pv p, pv q, va, vw] 34 (0, 0)) ∧ Row w3 o3 (D + 1) 60 1 va N als ∧ Row w3 o3 (D + 2) 60 1 vw N wls ∧ Lists w3 o3 D als wls ls ∧ Step (SAL D) w o w3 o3) := fun w3 o3 st => ⟨k1.step st (jn _ (by omega) (by omega) (by omega)), (h2.step s1 id).step st (jn _ (by omega) (by omega) (by omega)), (h3.step s1 id).step st (jn _ (by omega) (by omega) (by omega)), Lists.stepN (h4.step s1 (fun _ _ _ => id)) st (fun i hi => by have g := hl3 i (by rw [HNe.out]; exact hi); have h30 := hle; exact ⟨jn _ (by omega) (fun e => g.1 e.symm) (fun e => g.2.2.1 e.symm), jn _ (by omega) (fun e => g.2.1 e.symm) (fun e => g.2.2.2 e.symm)⟩), (s1.mono fun _ hh => hh.elim).trans (st.mono jA)⟩
  have d1 : Step (fun _ => False) (w.alloc (opxObj ⟨12, qa, qb, qv, qc, qf, qo⟩)) (newLab w o (D + 3)) (w.alloc (opxObj ⟨12, qa, qb, qv, qc, qf, qo⟩)).drew (newLab w o (D + 3)) := (Step.refl _ _ _).drew
  have t1 : Step J (w.alloc (opxObj ⟨12, qa, qb, qv, qc, qf, qo⟩)) (newLab w o (D + 3)) (w.alloc (opxObj ⟨12, qa, qb, qv, qc, qf, qo⟩)).drew (newLab w o (D + 3)) := d1.mono fun _ hh => hh.elim
  have f2 := f1.step d1 (fun _ _ => id)
  have x2 := x1.step d1 (fun _ _ => id)
  have nF : ¬ FL (D + 100) la := fun hh => by have := hh.1; omega
  have nX : ¬ XL (D + 10000) lb := fun hh => by have := hh.1; omega
  have nXA : ∀ k, XL (D + 10000) k → ¬ (FL (D + 100) k ∨ k = la) := fun k hk hh => by
    have a1 := hk.1
    rcases hh with hh | hh
    · have := hh.2; omega
    · omega
  have nFB : ∀ k, FL (D + 100) k → ¬ k = lb := fun k hk e => by have := hk.1; omega
  obtain ⟨c0, c1, c2, c3, c4, c5, c6, cf⟩ := B1.cells7x
  have hfm := h2.form
  obtain ⟨ava, cva, rfl⟩ := hfm
  have hfm := h3.form
  obtain ⟨avw, cvw, rfl⟩ := hfm
  clear h s1 B1 k1 f1 x1 d1 h2 h3 h4 hNe hm hla hlw hla' hlb' hJ hl3 eA eW
  simp only [opxV, pv, opxObj] at *
  go_enter Try.func8, Try.ntmps8
  go_wp2_with fail
  go_region_held (fun wx => wx.cell? ⟨ps, 0, none⟩ = some (.pointer (some ⟨p, 0, none⟩)) ∧ wx.cell? ⟨ps, 1, none⟩ = some (.pointer (some ⟨q, 0, none⟩)) ∧ wx.cell? ⟨w.heap.size, 1, none⟩ = some (.int .i64 qa)) (first | (with_reducible exact HC.out _ _ t2) | (with_reducible exact HC.out _ _ t1)) ((go_at_call 34; refine (A _ _ _ _ la nF f2).mono ?_; rintro e w2 ⟨v2, o2, rfl, R2, F2, S2⟩; have t2 := t1.trans (S2.mono jF)))
  all_goals
    have d2 : Step (fun _ => False) w2 o2 w2.drew o2 := (Step.refl _ _ _).drew
    have t2d := t2.trans (d2.mono (J := J) fun _ hh => hh.elim)
    have F2d := F2.step d2 (fun _ _ => id)
    have R2d := R2.step d2 id
    have x3 := (x2.step S2 nXA).step d2 (fun _ _ => id)
    obtain ⟨a2, k2, rfl⟩ := R2.form
    have cc := HC.out _ _ t2
    clear f2 x2 F2 S2 t2 d2 A R2
    go_wp2_with fail
    go_region_held (fun wx => wx.cell? ⟨ps, 0, none⟩ = some (.pointer (some ⟨p, 0, none⟩)) ∧ wx.cell? ⟨ps, 1, none⟩ = some (.pointer (some ⟨q, 0, none⟩)) ∧ wx.cell? ⟨w.heap.size, 1, none⟩ = some (.int .i64 qa)) (first | (with_reducible exact HC.out _ _ t3) | (with_reducible exact HC.out _ _ t2d)) ((go_at_call 35; refine (X _ _ _ _ lb nX x3).mono ?_; rintro e w3 ⟨v3, o3, rfl, R3, X3, S3⟩; have t3 := t2d.trans (S3.mono jX)))
    all_goals
      obtain ⟨a3, k3, rfl⟩ := R3.form
      obtain ⟨g0, gA, gW, gL, t4⟩ := HE.out _ _ t3
      have F3 := F2d.step S3 nFB
      have R23 := R2d.step S3 (by omega)
      clear HE HC t1 t2d t3 F2d x3 S3 X cc R2d jn jF jX jA
      obtain ⟨c0, c1, c2, c3, hf⟩ := g0.cells4
      obtain rfl : N = 30 := by omega
      have E : SA w3 o3 D ps p q room M s := ⟨_, _, _, _, _, ⟨g0, F3, X3⟩, by rw [show als.length = 30 from gL.la.trans HNe.out.symm]; exact gA, by rw [show wls.length = 30 from gL.lw.trans HNe.out.symm]; exact gW, gL⟩
      clear g0 gA gW gL F3 X3
      go_wp2_with fail
      refine (same_yes _ o3 o3 _ _ m xs _ _ HM.out.symm (by omega) R23 R3).mono ?_
      rintro e w9 ⟨rfl, m9, rfl⟩
      clear R23 R3 c0 c1 c2 c3 hf
      go_wp2
      go_ret
      exact ⟨ret_bool (by simp), o3, E.step ((Step.refl (fun _ => False) _ o3).drewN m9) (fun _ _ => id), t4.drewN m9⟩
end Go.Proofs.Ythdmajddmajjoaa
