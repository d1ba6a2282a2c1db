/- Tours: an edge's nodes; an edge that is cut: the walk. -/
import Derived.Test.YtnpfagpgploolaaLink
namespace Go.Proofs.Ytnpfagpgploolaa
open Go.ChangeShapes Go.WideShapes Go.ChangeAt Go.RowKit Go.Maps
set_option linter.unusedVariables false

theorem edge_in (w : World) (o : Nat → Nat) (L p n N : Nat) (free : List Nat) (it : Nat → It) (S : Nat → List Nat) (g : Nat → Nat × Nat) (f : Nat → Nat → Nat) (ms u v : Nat) (T : Tm w o L p n N free it S g f ms (stsOf n)) (hn : n ≤ 64) (hu : u < n) (hv : v < n) (hf : f u v ≠ 0) :
    Calls Try.prog 45 #[.pointer (some ⟨p, 0, none⟩), .int .i64 u, .int .i64 v] w fun e w' => e = .returned (.tuple #[.int .i64 (f u v : Nat), .int .i64 (f v u : Nat), .int .i64 0]) ∧ Step (fun _ => False) w o w' o := by
  obtain ⟨pf, bs, cap, bm, bg, h1, h2, h3, h4, h5⟩ := T
  have hu1 := has_any w o L p n pf bs cap bm bg u h1
  have hv1 := has_any w o L p n pf bs cap bm bg v h1
  rw [decide_eq_true (by omega)] at hu1 hv1
  obtain ⟨c0, c1, c2, c3⟩ := h1.cells
  have hr := h4.lookOk u v (by omega) (by omega)
  have hr2 := (h4.step ((Step.refl (fun _ => False) w o).drew) id).look v u (by omega) (by omega)
  rw [decide_eq_true hf] at hr
  go_enter Try.func45, Try.ntmps45
  go_wp2_with fail
  refine hu1.mono ?_
  rintro e w' ⟨rfl, rfl⟩
  go_wp2_with fail
  refine hv1.mono ?_
  rintro e w' ⟨rfl, rfl⟩
  go_wp2_with fail
  go_region
  all_goals
    go_wp2
    go_ret3
    exact ⟨rfl, (Step.refl _ _ _).drew⟩

theorem edge_none (w : World) (o : Nat → Nat) (L p n N : Nat) (free : List Nat) (it : Nat → It) (S : Nat → List Nat) (g : Nat → Nat × Nat) (f : Nat → Nat → Nat) (ms u v : Nat) (T : Tm w o L p n N free it S g f ms (stsOf n)) (hn : n ≤ 64) (hu : u < n) (hv : v < n) (hf : f u v = 0) :
    Calls Try.prog 45 #[.pointer (some ⟨p, 0, none⟩), .int .i64 u, .int .i64 v] w fun e w' => e = .returned (.tuple #[.int .i64 0, .int .i64 0, .int .i64 42]) ∧ w' = w := by
  obtain ⟨pf, bs, cap, bm, bg, h1, h2, h3, h4, h5⟩ := T
  have hu1 := has_any w o L p n pf bs cap bm bg u h1
  have hv1 := has_any w o L p n pf bs cap bm bg v h1
  rw [decide_eq_true (by omega)] at hu1 hv1
  obtain ⟨c0, c1, c2, c3⟩ := h1.cells
  have hr := h4.lookOk u v (by omega) (by omega)
  rw [decide_eq_false (by simpa using hf)] at hr
  go_enter Try.func45, Try.ntmps45
  go_wp2_with fail
  refine hu1.mono ?_
  rintro e w' ⟨rfl, rfl⟩
  go_wp2_with fail
  refine hv1.mono ?_
  rintro e w' ⟨rfl, rfl⟩
  go_wp2
  go_ret3
  exact ⟨rfl, rfl⟩

/-- The sequences behind a cut. -/
def cutF (S : Nat → List Nat) (A M B : List Nat) (x1 x2 : Nat) : Nat → List Nat := setS (setS (setS (setS S M) [x2]) [x1]) (A ++ B)

set_option maxRecDepth 100000 in
set_option maxHeartbeats 4000000 in
theorem cut_in (w : World) (o : Nat → Nat) (L p n N : Nat) (free : List Nat) (it : Nat → It) (S : Nat → List Nat) (g : Nat → Nat × Nat) (f : Nat → Nat → Nat) (ms u v a b x1 x2 : Nat) (A M B : List Nat) (T : Tm w o L p n N free it S g f ms (stsOf n)) (hn : n ≤ 64) (hu : u < n) (hv : v < n) (huv : u ≠ v) (hw : (a = u ∧ b = v) ∨ (a = v ∧ b = u)) (h1 : f a b = x1) (h2 : f b a = x2) (l1 : Live N free x1) (l2 : Live N free x2) (hS : S x1 = A ++ x1 :: (M ++ x2 :: B)) (hg1 : g x1 = (a, b)) (hg2 : g x2 = (b, a)) :
    Calls Try.prog 16 #[.pointer (some ⟨p, 0, none⟩), .int .i64 u, .int .i64 v] w fun e w' => e = .returned (.int .i64 0) ∧
      ∃ o', Tm w' o' L p n N (free ++ [x1] ++ [x2]) it (cutF S A M B x1 x2) g (upd2 (upd2 f a b 0) b a 0) (ms - 1 - 1) (stsOf n) ∧ Step (TL L) w o w' o' := by
  have sq := T.sq
  have nd := sq.nodup _ l1
  have hx2 : S x2 = A ++ x1 :: (M ++ x2 :: B) := by rw [← hS]; exact (sq.mem _ l1 x2 (by rw [hS]; simp)).2
  rw [hS] at nd
  have p1 := l1.1
  have p2 := l2.1
  have hf1 : f a b ≠ 0 := by omega
  have hf2 : f b a ≠ 0 := by omega
  have hab : a ≠ b := by omega
  have hf3 : upd2 f a b 0 b a ≠ 0 := by unfold upd2; rw [if_neg (fun h => hab h.2)]; exact hf2
  obtain ⟨nA, nX, dA⟩ := List.nodup_append.1 nd
  obtain ⟨x1n, nM⟩ := List.nodup_cons.1 nX
  obtain ⟨nM1, nX2, dM⟩ := List.nodup_append.1 nM
  obtain ⟨x2n, nB⟩ := List.nodup_cons.1 nX2
  have x1A : x1 ∉ A := fun h => dA _ h x1 (by simp) rfl
  have x2A : x2 ∉ A := fun h => dA _ h x2 (by simp) rfl
  have x2M : x2 ∉ M := fun h => dM _ h x2 (by simp) rfl
  have hne : x2 ≠ x1 := fun e => x1n (by simp [e])
  have MA : ∀ k ∈ M, k ∉ A := fun k hk h => dA _ h k (by simp [hk]) rfl
  have BA : ∀ k ∈ B, k ∉ A := fun k hk h => dA _ h k (by simp [hk]) rfl
  have BM : ∀ k ∈ B, k ∉ M := fun k hk h => dM _ h k (by simp [hk]) rfl
  have x1M : x1 ∉ M := fun h => x1n (by simp [h])
  have x1B : x1 ∉ B := fun h => x1n (by simp [h])
  obtain ⟨S1, hS1⟩ : ∃ S1, S1 = cut2 S A (x1 :: (M ++ x2 :: B)) := ⟨_, rfl⟩
  have q1 : S1 x1 = [] ++ x1 :: (M ++ x2 :: B) := by rw [hS1]; exact cut2_Y (by simp) x1A
  obtain ⟨S2, hS2⟩ : ∃ S2, S2 = cut2 S1 ([] ++ [x1]) (M ++ x2 :: B) := ⟨_, rfl⟩
  have q2 : S2 x2 = M ++ x2 :: B := by rw [hS2]; exact cut2_Y (by simp) (by simpa using hne)
  obtain ⟨S3, hS3⟩ : ∃ S3, S3 = cut2 S2 M (x2 :: B) := ⟨_, rfl⟩
  have q3 : S3 x2 = [] ++ x2 :: B := by rw [hS3]; exact cut2_Y (by simp) x2M
  obtain ⟨S4, hS4⟩ : ∃ S4, S4 = cut2 S3 ([] ++ [x2]) B := ⟨_, rfl⟩
  have q4a : ∀ k ∈ A, S4 k = A := fun k hk => by
    have h1 : k ≠ x1 := fun e => x1A (e ▸ hk)
    have h2 : k ≠ x2 := fun e => x2A (e ▸ hk)
    have h3 : k ∉ M := fun h => MA k h hk
    have h4 : k ∉ B := fun h => BA k h hk
    rw [hS4, cut2_out h4 (by simpa using h2), hS3, cut2_out (by simp [h2, h4]) h3, hS2, cut2_out (by simp [h2, h3, h4]) (by simpa using h1), hS1]
    exact cut2_X hk
  have q4b : ∀ k ∈ B, S4 k = B := fun k hk => by rw [hS4]; exact cut2_Y hk (by simp; exact fun e => x2n (e ▸ hk))
  have eF : setS S4 (A ++ B) = cutF S A M B x1 x2 := by
    funext k
    unfold cutF
    by_cases hk : k ∈ A ++ B
    · rw [setS_in hk, setS_in hk]
    · rw [setS_out hk, setS_out hk]
      have kA : k ∉ A := fun h => hk (by simp [h])
      have kB : k ∉ B := fun h => hk (by simp [h])
      by_cases k1 : k = x1
      · subst k1
        rw [setS_in (by simp), hS4, cut2_out kB (by simpa using hne.symm), hS3, cut2_out (by simp [hne.symm, kB]) x1M, hS2]
        exact cut2_X (by simp)
      · rw [setS_out (by simpa using k1)]
        by_cases k2 : k = x2
        · subst k2
          rw [setS_in (by simp), hS4]
          exact cut2_X (by simp)
        · rw [setS_out (by simpa using k2), hS4, cut2_out kB (by simpa using k2), hS3]
          by_cases kM : k ∈ M
          · rw [setS_in kM]; exact cut2_X kM
          · rw [setS_out kM, cut2_out (by simp [k2, kB]) kM, hS2, cut2_out (by simp [kM, k2, kB]) (by simpa using k1), hS1, cut2_out (by simp [k1, kM, k2, kB]) kA]
  obtain ⟨rj, hj⟩ := joinT N free it S4 (A.headD 0) (B.headD 0) A B (by
      cases A with
      | nil => exact .inl ⟨rfl, rfl⟩
      | cons c A => exact .inr ⟨(sq.mem _ l1 c (by rw [hS]; simp)).1, q4a c (by simp)⟩) (by
      cases B with
      | nil => exact .inl ⟨rfl, rfl⟩
      | cons c B => exact .inr ⟨(sq.mem _ l1 c (by rw [hS]; simp)).1, q4b c (by simp)⟩) (by
      cases A with
      | nil => exact .inr (.inl rfl)
      | cons c A =>
        cases B with
        | nil => exact .inr (.inr rfl)
        | cons d B =>
          refine .inl ?_
          rw [show S4 ((c :: A).headD 0) = c :: A from q4a c (by simp), show S4 ((d :: B).headD 0) = d :: B from q4b d (by simp)]
          exact fun e => BA d (by simp) (by rw [e]; simp))
  rw [eF] at hj
  have HQ5 : Hid (cutF S A M B x1 x2 x1 = [x1] ∧ cutF S A M B x1 x2 x2 = [x2]) := by
    unfold cutF
    refine ⟨?_, ?_⟩
    · rw [setS_out (by simp [x1A, x1B]), setS_in (by simp)]
    · rw [setS_out (by simp [x2A, x2n]), setS_out (by simpa using hne), setS_in (by simp)]
  have HJ : Hid _ := hj
  have HQ1 : Hid _ := q1
  have HQ2 : Hid _ := q2
  have HQ3 : Hid _ := q3
  have HS2 : Hid _ := hS2
  have HS3 : Hid _ := hS3
  have HS4 : Hid _ := hS4
  have HS : Hid _ := hS
  have hx3 : S x2 = (A ++ x1 :: M) ++ x2 :: B := by rw [hx2]; simp
  have HX2 : Hid (S x2 = (A ++ x1 :: M) ++ x2 :: B) := hx3
  have hn0 : 0 < n := by omega
  obtain ⟨fa, hfa⟩ : ∃ r, r = A.headD 0 := ⟨_, rfl⟩
  obtain ⟨rb, hrb⟩ : ∃ r, r = B.headD 0 := ⟨_, rfl⟩
  rw [← hfa, ← hrb] at HJ
  have HFA : Hid (fa = A.headD 0) := hfa
  have HRB : Hid (rb = B.headD 0) := hrb
  have HS1 : Hid _ := hS1
  have hlen : A.length < (A ++ x1 :: M).length := by simp
  have hlt : ¬ ((A.length : Int) > (((A ++ x1 :: M).length : Nat) : Int)) := by omega
  have hgt : (((A ++ x1 :: M).length : Nat) : Int) > (A.length : Int) := by omega
  obtain ⟨lm, hlm⟩ : ∃ l, l = (A ++ x1 :: M).length := ⟨_, rfl⟩
  rw [← hlm] at hlt hgt hlen
  have HLM : Hid (lm = (A ++ x1 :: M).length) := hlm
  have HP1 : Hid (∀ wx ox, Tm wx ox L p n N free it S g f ms (stsOf n) → Calls Try.prog 46 #[.pointer (some ⟨p, 0, none⟩), .int .i64 x1] wx fun e w' => e = .returned (.int .i64 A.length) ∧ ∃ o', Tm w' o' L p n N free it S g f ms (stsOf n) ∧ Step (FL L) wx ox w' o') := fun wx ox Tx => place_any wx ox L p n N free it S g f ms _ x1 A (M ++ x2 :: B) Tx l1 HS.out
  have HP2 : Hid (∀ wx ox, Tm wx ox L p n N free it S g f ms (stsOf n) → Calls Try.prog 46 #[.pointer (some ⟨p, 0, none⟩), .int .i64 x2] wx fun e w' => e = .returned (.int .i64 lm) ∧ ∃ o', Tm w' o' L p n N free it S g f ms (stsOf n) ∧ Step (FL L) wx ox w' o') := fun wx ox Tx => by rw [HLM.out]; exact place_any wx ox L p n N free it S g f ms _ x2 (A ++ x1 :: M) B Tx l2 HX2.out
  have HA1 : Hid (∀ wx ox, Tm wx ox L p n N free it S g f ms (stsOf n) → Calls Try.prog 47 #[.pointer (some ⟨p, 0, none⟩), .int .i64 x1] wx fun e w' => e = .returned (.int .i64 fa) ∧ ∃ o', Tm w' o' L p n N free it S1 g f ms (stsOf n) ∧ Step (FL L) wx ox w' o') := fun wx ox Tx => by rw [HFA.out, HS1.out]; exact cutAhead_any wx ox L p n N free it S g f ms _ x1 A (M ++ x2 :: B) Tx l1 HS.out
  have hed := edge_in w o L p n N free it S g f ms u v T hn hu hv (by rcases hw with ⟨rfl, rfl⟩ | ⟨rfl, rfl⟩ <;> assumption)
  have HTQ : Hid (∀ wx, Step (fun _ => False) w o wx o → Tm wx o L p n N free it S g f ms (stsOf n)) := fun wx s => T.quiet s
  have ea : a < 64 ∧ b < 64 := by rcases hw with ⟨rfl, rfl⟩ | ⟨rfl, rfl⟩ <;> omega
  clear hj q1 q2 q3 hS1 hS2 hS3 hS4 q4a q4b eF hS hx2 hx3 hfa hrb hlm nd nA nX dA x1n nM nM1 nX2 dM x2n nB x1A x2A x2M MA BA BM x1M x1B T sq
  rcases hw with ⟨rfl, rfl⟩ | ⟨rfl, rfl⟩
  · rw [h1, h2] at hed
    go_enter Try.func16, Try.ntmps16
    go_wp2_with fail
    refine hed.mono ?_
    rintro e w1 ⟨rfl, s0⟩
    have T0 := HTQ.out _ s0
    have hp := HP1.out _ _ T0
    clear hed T0
    go_wp2_with fail
    refine hp.mono ?_
    rintro e w2 ⟨rfl, o1, T1, s1⟩
    have t1 := (s0.mono (J := FL L) fun _ h => h.elim).trans s1
    have hp := HP2.out _ _ T1
    clear T1 s1 s0
    go_wp2_with fail
    refine hp.mono ?_
    rintro e w2 ⟨rfl, o2, T2, s2⟩
    have t2 := t1.trans s2
    have hfr := HA1.out _ _ T2
    clear hp T2 s2 t1 HP1 HP2
    go_wp2_with fail
    refine hfr.mono ?_
    rintro e w3 ⟨rfl, o3, T3, s3⟩
    have t3 := t2.trans s3
    have h4 := cutBehind_any w3 o3 L p n N free it _ g f ms _ x1 [] (M ++ x2 :: B) T3 l1 HQ1.out
    rw [← HS2.out] at h4
    obtain ⟨nx, hnx⟩ : ∃ nx, nx = (M ++ x2 :: B).headD 0 := ⟨_, rfl⟩
    rw [← hnx] at h4
    clear hfr T3 hnx s3 t2
    go_wp2_with fail
    refine h4.mono ?_
    rintro e w4 ⟨rfl, o4, T4, s4⟩
    have t4 := t3.trans s4
    have h5 := cutAhead_any w4 o4 L p n N free it _ g f ms _ x2 M B T4 l2 HQ2.out
    rw [← HS3.out] at h5
    obtain ⟨nx, hnx⟩ : ∃ nx, nx = M.headD 0 := ⟨_, rfl⟩
    rw [← hnx] at h5
    clear h4 T4 hnx s4 t3
    go_wp2_with fail
    refine h5.mono ?_
    rintro e w5 ⟨rfl, o5, T5, s5⟩
    have t5 := t4.trans s5
    have h6 := cutBehind_any w5 o5 L p n N free it _ g f ms _ x2 [] B T5 l2 HQ3.out
    rw [← HS4.out, ← HRB.out] at h6
    clear h5 T5 s5 t4
    go_wp2_with fail
    refine h6.mono ?_
    rintro e w6 ⟨rfl, o6, T6, s6⟩
    have t6 := t5.trans s6
    obtain ⟨pf, bs, cap, ⟨hcp1, hcp2⟩, F6, HC6, HT6⟩ := T6.open hn0
    have HT : Hid _ := HT6
    obtain ⟨⟨c0, c1⟩, cv⟩ := HC6 _ _ (Step.refl _ _ _)
    have h7 := HJ.out _ _ _ _ _ F6
    clear h6 T6 F6 HC6 HT6 s6 t5 cv
    go_wp2_with fail
    refine h7.mono ?_
    rintro e w7 ⟨rfl, o7, F7, s7⟩
    have T7 := HT.out _ _ _ _ s7 F7
    have t7 := t6.trans s7
    have h8 := drop_any w7 o7 L p n N free it _ g f ms _ x1 a b T7 l1 HQ5.out.1 hg1 (by omega) (by omega) hf1
    clear h7 HT F7 T7 s7 t6 c0 c1
    go_wp2_with fail
    refine h8.mono ?_
    rintro e w8 ⟨rfl, o8, T8, s8⟩
    have t8 := t7.tl.trans s8
    have h9 := drop_any w8 o8 L p n N (free ++ [x1]) it _ g _ (ms - 1) _ x2 b a T8 ((Live.drop x2).2 ⟨l2, hne⟩) HQ5.out.2 hg2 (by omega) (by omega) hf3
    clear h8 T8 s8 t7
    go_wp2_with fail
    refine h9.mono ?_
    rintro e w9 ⟨rfl, o9, T9, s9⟩
    have t9 := t8.trans s9
    clear h9 s9 t8
    go_wp2
    go_ret
    exact ⟨rfl, o9, T9, t9⟩
  · rw [h1, h2] at hed
    go_enter Try.func16, Try.ntmps16
    go_wp2_with fail
    refine hed.mono ?_
    rintro e w1 ⟨rfl, s0⟩
    have T0 := HTQ.out _ s0
    have hp := HP2.out _ _ T0
    clear hed T0
    go_wp2_with fail
    refine hp.mono ?_
    rintro e w2 ⟨rfl, o1, T1, s1⟩
    have t1 := (s0.mono (J := FL L) fun _ h => h.elim).trans s1
    have hp := HP1.out _ _ T1
    clear T1 s1 s0
    go_wp2_with fail
    refine hp.mono ?_
    rintro e w2 ⟨rfl, o2, T2, s2⟩
    have t2 := t1.trans s2
    have hfr := HA1.out _ _ T2
    clear hp T2 s2 t1 HP1 HP2
    go_wp2_with fail
    refine hfr.mono ?_
    rintro e w3 ⟨rfl, o3, T3, s3⟩
    have t3 := t2.trans s3
    have h4 := cutBehind_any w3 o3 L p n N free it _ g f ms _ x1 [] (M ++ x2 :: B) T3 l1 HQ1.out
    rw [← HS2.out] at h4
    obtain ⟨nx, hnx⟩ : ∃ nx, nx = (M ++ x2 :: B).headD 0 := ⟨_, rfl⟩
    rw [← hnx] at h4
    clear hfr T3 hnx s3 t2
    go_wp2_with fail
    refine h4.mono ?_
    rintro e w4 ⟨rfl, o4, T4, s4⟩
    have t4 := t3.trans s4
    have h5 := cutAhead_any w4 o4 L p n N free it _ g f ms _ x2 M B T4 l2 HQ2.out
    rw [← HS3.out] at h5
    obtain ⟨nx, hnx⟩ : ∃ nx, nx = M.headD 0 := ⟨_, rfl⟩
    rw [← hnx] at h5
    clear h4 T4 hnx s4 t3
    go_wp2_with fail
    refine h5.mono ?_
    rintro e w5 ⟨rfl, o5, T5, s5⟩
    have t5 := t4.trans s5
    have h6 := cutBehind_any w5 o5 L p n N free it _ g f ms _ x2 [] B T5 l2 HQ3.out
    rw [← HS4.out, ← HRB.out] at h6
    clear h5 T5 s5 t4
    go_wp2_with fail
    refine h6.mono ?_
    rintro e w6 ⟨rfl, o6, T6, s6⟩
    have t6 := t5.trans s6
    obtain ⟨pf, bs, cap, ⟨hcp1, hcp2⟩, F6, HC6, HT6⟩ := T6.open hn0
    have HT : Hid _ := HT6
    obtain ⟨⟨c0, c1⟩, cv⟩ := HC6 _ _ (Step.refl _ _ _)
    have h7 := HJ.out _ _ _ _ _ F6
    clear h6 T6 F6 HC6 HT6 s6 t5 cv
    go_wp2_with fail
    refine h7.mono ?_
    rintro e w7 ⟨rfl, o7, F7, s7⟩
    have T7 := HT.out _ _ _ _ s7 F7
    have t7 := t6.trans s7
    have h8 := drop_any w7 o7 L p n N free it _ g f ms _ x1 a b T7 l1 HQ5.out.1 hg1 (by omega) (by omega) hf1
    clear h7 HT F7 T7 s7 t6 c0 c1
    go_wp2_with fail
    refine h8.mono ?_
    rintro e w8 ⟨rfl, o8, T8, s8⟩
    have t8 := t7.tl.trans s8
    have h9 := drop_any w8 o8 L p n N (free ++ [x1]) it _ g _ (ms - 1) _ x2 b a T8 ((Live.drop x2).2 ⟨l2, hne⟩) HQ5.out.2 hg2 (by omega) (by omega) hf3
    clear h8 T8 s8 t7
    go_wp2_with fail
    refine h9.mono ?_
    rintro e w9 ⟨rfl, o9, T9, s9⟩
    have t9 := t8.trans s9
    clear h9 s9 t8
    go_wp2
    go_ret
    exact ⟨rfl, o9, T9, t9⟩

end Go.Proofs.Ytnpfagpgploolaa
