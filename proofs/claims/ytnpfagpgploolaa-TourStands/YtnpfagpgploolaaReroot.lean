/- Tours: of one tree? A tour that begins elsewhere. -/
import Derived.Test.YtnpfagpgploolaaNodeT2
namespace Go.Proofs.Ytnpfagpgploolaa
open Go.ChangeShapes Go.WideShapes Go.ChangeAt Go.RowKit Go.Maps
set_option linter.unusedVariables false

theorem hasB_zero (N : Nat) (free : List Nat) : hasB N free (0 : Int) = false := by simp [hasB]
/-- Join, of nodes or of none. -/
theorem joinT (N : Nat) (free : List Nat) (it : Nat → It) (S : Nat → List Nat) (a b : Nat) (X Y : List Nat) (hX : (X = [] ∧ a = 0) ∨ (Live N free a ∧ S a = X)) (hY : (Y = [] ∧ b = 0) ∨ (Live N free b ∧ S b = Y)) (hd : S a ≠ S b ∨ a = 0 ∨ b = 0) :
    ∃ r : Int, ∀ L pf room w o, Fo w o L pf room N free it S → Calls Try.prog 44 #[.pointer (some ⟨pf, 0, none⟩), .int .i64 a, .int .i64 b] w fun e w' => e = .returned (.int .i64 r) ∧ ∃ o', Fo w' o' L pf room N free it (setS S (X ++ Y)) ∧ Step (FL L) w o w' o' := by
  rcases hX with ⟨rfl, rfl⟩ | ⟨la, rfl⟩
  · refine ⟨31, fun L pf room w o F => (joinOutA w o L pf room N free it S (0 : Nat) b F (hasB_zero N free)).mono ?_⟩
    rintro e w' ⟨rfl, rfl⟩
    refine ⟨rfl, o, ?_, Step.refl _ _ _⟩
    rcases hY with ⟨rfl, rfl⟩ | ⟨lb, rfl⟩
    · rw [List.append_nil, setS_nil]; exact F
    · rw [List.nil_append, setS_self (fun k hk => (F.mem lb hk).2)]; exact F
  · rcases hY with ⟨rfl, rfl⟩ | ⟨lb, rfl⟩
    · refine ⟨31, fun L pf room w o F => (joinOutB w o L pf room N free it S a (0 : Nat) F la (hasB_zero N free)).mono ?_⟩
      rintro e w' ⟨rfl, rfl⟩
      refine ⟨rfl, o, ?_, Step.refl _ _ _⟩
      rw [List.append_nil, setS_self (fun k hk => (F.mem la hk).2)]; exact F
    · refine ⟨0, fun L pf room w o F => (joinInF w o L pf room N free it S a b F la lb ?_).mono ?_⟩
      · rcases hd with h | h | h
        · exact h
        · have := la.1; omega
        · have := lb.1; omega
      · rintro e w' ⟨rfl, o', F', s⟩
        rw [joinS_eq] at F'
        exact ⟨rfl, o', F', s⟩

/-- What a step of the forest leaves of tours. -/
theorem Tm.cellsF {w : World} {o : Nat → Nat} {L p n pf bs cap bm bg : Nat} (h1 : Ts w o L p n pf bs cap bm bg) (h3 : Row w o (L + 1101) 3 1 (.slice (some ⟨bs, 0, none⟩) n cap) n (intsL (stsOf n))) :
    ∀ wx ox, Step (FL L) w o wx ox → (wx.cell? ⟨p, 0, none⟩ = some (.pointer (some ⟨pf, 0, none⟩)) ∧ wx.cell? ⟨p, 1, none⟩ = some (.slice (some ⟨bs, 0, none⟩) n cap)) ∧ ∀ v, v < n → wx.cell? ⟨bs, v, none⟩ = some (.int .i64 (v + 1 : Nat)) := fun wx ox s => by
  have a9 : ∀ k, FL L k → k < L + 1100 := fun k hk => by have := hk.2; omega
  have c := (h1.step s (fun h => by have := a9 _ h; omega)).cells
  have r := h3.step s (fun h => by have := a9 _ h; omega)
  refine ⟨⟨c.1, c.2.1⟩, fun v hv => ?_⟩
  obtain ⟨g', cap', hv', _, _, _, _, hcell', _⟩ := r.pos (by omega)
  simp only [Value.slice.injEq, Option.some.injEq, Addr.mk.injEq, and_true, true_and] at hv'
  obtain ⟨rfl, _⟩ := hv'
  rw [hcell' v (by omega)]
  exact stsOf_at hv
/-- The forest of tours, by its pointer. -/
theorem Tm.forest {w : World} {o : Nat → Nat} {L p n N : Nat} {free : List Nat} {it : Nat → It} {S : Nat → List Nat} {g : Nat → Nat × Nat} {f : Nat → Nat → Nat} {ms : Nat} {sts : List Nat} {pf : Nat} (T : Tm w o L p n N free it S g f ms sts) (c : w.cell? ⟨p, 0, none⟩ = some (.pointer (some ⟨pf, 0, none⟩))) : Fo w o L pf (n + 2 * (n - 1)) N free it S := by
  obtain ⟨pf', bs', cap', bm', bg', k1, k2, k3, k4, k5⟩ := T
  have := k1.cells.1
  rw [c] at this
  simp at this
  rw [this]; exact k2

set_option maxRecDepth 100000 in
theorem same_in (w : World) (o : Nat → Nat) (L p n N : Nat) (free : List Nat) (it : Nat → It) (S : Nat → List Nat) (g : Nat → Nat × Nat) (f : Nat → Nat → Nat) (ms u v : Nat) (T : Tm w o L p n N free it S g f ms (stsOf n)) (hu : u < n) (hv : v < n) (lu : Live N free (u + 1)) (lv : Live N free (v + 1)) :
    Calls Try.prog 35 #[.pointer (some ⟨p, 0, none⟩), .int .i64 u, .int .i64 v] w fun e w' => e = .returned (.tuple #[.bool (decide (S (u + 1) = S (v + 1))), .int .i64 0]) ∧ ∃ o', Tm w' o' L p n N free it S g f ms (stsOf n) ∧ Step (FL L) w o w' o' := by
  obtain ⟨pf, bs, cap, bm, bg, h1, h2, h3, h4, h5⟩ := T
  have hu1 := has_any w o L p n pf bs cap bm bg u h1
  have hv1 := has_any w o L p n pf bs cap bm bg v h1
  rw [decide_eq_true (by omega)] at hu1 hv1
  have HC : Hid _ := Tm.cellsF h1 h3
  have sd : Step (FL L) w o w.drew o := (Step.refl _ _ _).drew
  obtain ⟨⟨c0, c1⟩, cv⟩ := HC.out _ _ sd
  have cu := cv u hu
  have cv := cv v hv
  have hc := sameInF w.drew o L pf _ N free it S (u + 1) (v + 1) (h2.quiet ((Step.refl _ _ _).drew)) lu lv
  obtain ⟨g', cap', hv', _, hcap, hmx, _, _, _⟩ := h3.pos (by omega)
  simp only [Value.slice.injEq, Option.some.injEq, Addr.mk.injEq, and_true, true_and] at hv'
  obtain ⟨rfl, rfl⟩ := hv'
  unfold maxLen at hmx
  have hun : (u : Int) < (n : Int) := by omega
  have hvn : (v : Int) < (n : Int) := by omega
  go_enter Try.func35, Try.ntmps35
  go_wp2_with fail
  refine hu1.mono ?_
  rintro e w' ⟨rfl, rfl⟩
  go_wp2_with fail
  refine hv1.mono ?_
  rintro e w' ⟨rfl, rfl⟩
  go_wp2_with fail
  go_region_held (fun wx => wx.cell? ⟨p, 0, none⟩ = some (.pointer (some ⟨pf, 0, none⟩)) ∧ wx.cell? ⟨p, 1, none⟩ = some (.slice (some ⟨bs, 0, none⟩) n cap) ∧ wx.cell? ⟨bs, u, none⟩ = some (.int .i64 (u + 1 : Nat)) ∧ wx.cell? ⟨bs, v, none⟩ = some (.int .i64 (v + 1 : Nat))) (first | (with_reducible exact ⟨c0, c1, cu, cv⟩) | (with_reducible exact K2)) ((go_at_call 66; refine hc.mono ?_; rintro e w2 ⟨rfl, o2, F2, s2⟩; have K1 := HC.out _ _ (sd.trans s2); have K2 := (⟨K1.1.1, K1.1.2, K1.2 u hu, K1.2 v hv⟩ : _ ∧ _ ∧ _ ∧ _)))
  all_goals
    have s3 := sd.trans s2
    have R := Tm.fo h1 h3 h4 h5 s3 F2
    clear h1 h2 h3 h4 h5 hc F2 HC K1 K2
    go_wp2
    go_ret2
    exact ⟨rfl, o2, R, s3⟩

theorem cut2_over {S : Nat → List Nat} {X Y Z : List Nat} (hx : ∀ k ∈ X, k ∈ Z) (hy : ∀ k ∈ Y, k ∈ Z) : setS (cut2 S X Y) Z = setS S Z := by
  unfold cut2
  rw [setS_over hx, setS_over hy]

set_option maxRecDepth 100000 in
theorem reroot_in (w : World) (o : Nat → Nat) (L p n N : Nat) (free : List Nat) (it : Nat → It) (S : Nat → List Nat) (g : Nat → Nat × Nat) (f : Nat → Nat → Nat) (ms v : Nat) (A B : List Nat) (T : Tm w o L p n N free it S g f ms (stsOf n)) (hv : v < n) (lv : Live N free (v + 1)) (hS : S (v + 1) = A ++ (v + 1) :: B) :
    Calls Try.prog 19 #[.pointer (some ⟨p, 0, none⟩), .int .i64 v] w fun e w' => e = .returned (.int .i64 0) ∧ ∃ o', Tm w' o' L p n N free it (setS S ((v + 1) :: B ++ A)) g f ms (stsOf n) ∧ Step (FL L) w o w' o' := by
  have hca := cutAhead_any w o L p n N free it S g f ms (stsOf n) (v + 1) A B T lv hS
  obtain ⟨pf, bs, cap, bm, bg, h1, h2, h3, h4, h5⟩ := T
  have hv1 := has_any w o L p n pf bs cap bm bg v h1
  rw [decide_eq_true (by omega)] at hv1
  have HC : Hid _ := Tm.cellsF h1 h3
  obtain ⟨⟨c0, c1⟩, cv⟩ := HC.out _ _ (Step.refl _ _ _)
  have cv := cv v hv
  have hnd := h2.nodup lv
  rw [hS] at hnd
  have hna : v + 1 ∉ A := fun h => (List.nodup_append.1 hnd).2.2 _ h (v + 1) (by simp) rfl
  have eX : cut2 S A ((v + 1) :: B) (v + 1) = (v + 1) :: B := cut2_Y (by simp) hna
  obtain ⟨r, hj⟩ := joinT N free it (cut2 S A ((v + 1) :: B)) (v + 1) (A.headD 0) ((v + 1) :: B) A (.inr ⟨lv, eX⟩) (by
      cases A with
      | nil => exact .inl ⟨rfl, rfl⟩
      | cons c A => exact .inr ⟨(h2.mem lv (by rw [hS]; simp)).1, cut2_X (by simp)⟩) (by
      cases A with
      | nil => exact .inr (.inr rfl)
      | cons c A =>
        refine .inl ?_
        rw [eX, show cut2 S (c :: A) ((v + 1) :: B) ((c :: A).headD 0) = c :: A from cut2_X (by simp)]
        exact fun e => hna (by rw [← e]; simp))
  rw [cut2_over (fun k hk => by simp [hk]) (fun k hk => by simp at hk ⊢; rcases hk with h | h <;> simp [h])] at hj
  have HJ : Hid _ := hj
  obtain ⟨g', cap', hv', _, hcap, hmx, _, _, _⟩ := h3.pos (by omega)
  simp only [Value.slice.injEq, Option.some.injEq, Addr.mk.injEq, and_true, true_and] at hv'
  obtain ⟨rfl, rfl⟩ := hv'
  unfold maxLen at hmx
  have hvn : (v : Int) < (n : Int) := by omega
  obtain ⟨b, hb⟩ : ∃ b, b = A.headD 0 := ⟨_, rfl⟩
  rw [← hb] at hca HJ
  clear hj hb eX hna hnd
  go_enter Try.func19, Try.ntmps19
  go_wp2_with fail
  refine hv1.mono ?_
  rintro e w' ⟨rfl, rfl⟩
  go_wp2_with fail
  refine hca.mono ?_
  rintro e w1 ⟨rfl, o1, T1, s1⟩
  have s1d := s1.drew
  obtain ⟨⟨d0, d1⟩, dv⟩ := HC.out _ _ s1d
  have dv := dv v hv
  have F1 := (T1.quiet ((Step.refl (fun _ => False) w1 o1).drew)).forest d0
  clear hca hv1 c0 c1 cv T1
  go_wp2_with fail
  go_region_held (fun wx => wx.cell? ⟨p, 0, none⟩ = some (.pointer (some ⟨pf, 0, none⟩)) ∧ wx.cell? ⟨p, 1, none⟩ = some (.slice (some ⟨bs, 0, none⟩) n cap) ∧ wx.cell? ⟨bs, v, none⟩ = some (.int .i64 (v + 1 : Nat))) (first | (with_reducible exact ⟨d0, d1, dv⟩) | (with_reducible exact K2)) ((go_at_call 44; refine (HJ.out _ _ _ _ _ F1).mono ?_; rintro e w2 ⟨rfl, o2, F2, s2⟩; have K1 := HC.out _ _ (s1d.trans s2); have K2 := (⟨K1.1.1, K1.1.2, K1.2 v hv⟩ : _ ∧ _ ∧ _)))
  all_goals
    have s3 := s1d.trans s2
    have R := Tm.fo h1 h3 h4 h5 s3 F2
    clear h1 h2 h3 h4 h5 F2 HC K1 K2 F1 HJ
    go_wp2
    go_ret
    exact ⟨rfl, o2, R, s3⟩

end Go.Proofs.Ytnpfagpgploolaa
