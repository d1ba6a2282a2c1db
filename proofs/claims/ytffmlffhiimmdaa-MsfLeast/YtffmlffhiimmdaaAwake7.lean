/- The chapter's first example. -/
import Derived.Test.YtffmlffhiimmdaaLaw7
namespace Go.Proofs.Ytffmlffhiimmdaa
open Go.ChangeShapes Go.WideShapes Go.ChangeAt Go.RowKit
set_option linter.unusedVariables false

def aD1 : Nat → Option Ed := upd (fun _ => none) 11 (some ⟨0, 1, 4⟩)
def aD2 : Nat → Option Ed := upd aD1 12 (some ⟨1, 2, 7⟩)
def aD3 : Nat → Option Ed := upd aD2 13 (some ⟨0, 2, 9⟩)
def aD4 : Nat → Option Ed := upd aD3 14 (some ⟨2, 0, 4⟩)
def aE3 : Nat → Option Ed := upd (upd (fun _ => none) 11 (some ⟨0, 1, 4⟩)) 12 (some ⟨1, 2, 7⟩)
def aE4 : Nat → Option Ed := upd (upd (fun _ => none) 11 (some ⟨0, 1, 4⟩)) 14 (some ⟨2, 0, 4⟩)
theorem upd_some {f : Nat → Option Ed} {h k : Nat} {x y : Ed} (e : upd f h (some x) k = some y) : (k = h ∧ y = x) ∨ f k = some y := by
  by_cases q : k = h
  · subst q; rw [upd_same] at e; injection e with e; exact .inl ⟨rfl, e.symm⟩
  · rw [upd_other _ _ q] at e; exact .inr e
theorem aD3_at {k : Nat} {x : Ed} (h : aD3 k = some x) : (k = 11 ∧ x = ⟨0, 1, 4⟩) ∨ (k = 12 ∧ x = ⟨1, 2, 7⟩) ∨ (k = 13 ∧ x = ⟨0, 2, 9⟩) := by
  rcases upd_some h with q | h
  · exact .inr (.inr q)
  · rcases upd_some h with q | h
    · exact .inr (.inl q)
    · rcases upd_some h with q | h
      · exact .inl q
      · simp at h
theorem aD4_at {k : Nat} {x : Ed} (h : aD4 k = some x) : (k = 14 ∧ x = ⟨2, 0, 4⟩) ∨ (k = 11 ∧ x = ⟨0, 1, 4⟩) ∨ (k = 12 ∧ x = ⟨1, 2, 7⟩) ∨ (k = 13 ∧ x = ⟨0, 2, 9⟩) := by
  rcases upd_some h with q | h
  · exact .inl q
  · exact .inr (aD3_at h)
theorem aE3_at {k : Nat} {x : Ed} (h : aE3 k = some x) : (k = 12 ∧ x = ⟨1, 2, 7⟩) ∨ (k = 11 ∧ x = ⟨0, 1, 4⟩) := by
  rcases upd_some h with q | h
  · exact .inl q
  · rcases upd_some h with q | h
    · exact .inr q
    · simp at h
theorem aE4_at {k : Nat} {x : Ed} (h : aE4 k = some x) : (k = 14 ∧ x = ⟨2, 0, 4⟩) ∨ (k = 11 ∧ x = ⟨0, 1, 4⟩) := by
  rcases upd_some h with q | h
  · exact .inl q
  · rcases upd_some h with q | h
    · exact .inr q
    · simp at h
theorem aM3 : Mf aD3 aE3 := by
  refine ⟨fun i x h => ?_, fun i x h hn => ?_⟩
  · rcases aE3_at h with ⟨rfl, rfl⟩ | ⟨rfl, rfl⟩ <;> rfl
  · rcases aD3_at h with ⟨rfl, rfl⟩ | ⟨rfl, rfl⟩ | ⟨rfl, rfl⟩
    · cases hn
    · cases hn
    · have e1 : Cn (fun k => lgt aD3 k 13) aE3 0 1 := Cn.edge (i := 11) (x := ⟨0, 1, 4⟩) rfl ⟨⟨0, 1, 4⟩, ⟨0, 2, 9⟩, rfl, rfl, .inl (by decide)⟩
      have e2 : Cn (fun k => lgt aD3 k 13) aE3 1 2 := Cn.edge (i := 12) (x := ⟨1, 2, 7⟩) rfl ⟨⟨1, 2, 7⟩, ⟨0, 2, 9⟩, rfl, rfl, .inl (by decide)⟩
      exact e1.trans e2
theorem aA3 : ∀ i x, aE3 i = some x → ¬ Cn (fun k => k ≠ i) aE3 x.u x.v := fun i x h c => by
  rcases aE3_at h with ⟨rfl, rfl⟩ | ⟨rfl, rfl⟩
  · have := c (fun z => z ≠ 2) (by decide) (fun k y hy hk => by
      rcases aE3_at hy with ⟨rfl, rfl⟩ | ⟨rfl, rfl⟩
      · exact absurd rfl hk
      · simp)
    exact this rfl
  · have := c (fun z => z = 0) rfl (fun k y hy hk => by
      rcases aE3_at hy with ⟨rfl, rfl⟩ | ⟨rfl, rfl⟩
      · simp
      · exact absurd rfl hk)
    cases this
theorem aM4 : Mf aD4 aE4 := by
  have e1 : ∀ P : Nat → Prop, P 11 → Cn P aE4 0 1 := fun P h => Cn.edge (i := 11) (x := ⟨0, 1, 4⟩) rfl h
  have e2 : ∀ P : Nat → Prop, P 14 → Cn P aE4 2 0 := fun P h => Cn.edge (i := 14) (x := ⟨2, 0, 4⟩) rfl h
  refine ⟨fun i x h => ?_, fun i x h hn => ?_⟩
  · rcases aE4_at h with ⟨rfl, rfl⟩ | ⟨rfl, rfl⟩ <;> rfl
  · rcases aD4_at h with ⟨rfl, rfl⟩ | ⟨rfl, rfl⟩ | ⟨rfl, rfl⟩ | ⟨rfl, rfl⟩
    · cases hn
    · cases hn
    · exact ((e1 _ ⟨⟨0, 1, 4⟩, ⟨1, 2, 7⟩, rfl, rfl, .inl (by decide)⟩).symm).trans ((e2 _ ⟨⟨2, 0, 4⟩, ⟨1, 2, 7⟩, rfl, rfl, .inl (by decide)⟩).symm)
    · exact (e2 _ ⟨⟨2, 0, 4⟩, ⟨0, 2, 9⟩, rfl, rfl, .inl (by decide)⟩).symm
theorem aA4 : ∀ i x, aE4 i = some x → ¬ Cn (fun k => k ≠ i) aE4 x.u x.v := fun i x h c => by
  rcases aE4_at h with ⟨rfl, rfl⟩ | ⟨rfl, rfl⟩
  · have := c (fun z => z = 2) rfl (fun k y hy hk => by
      rcases aE4_at hy with ⟨rfl, rfl⟩ | ⟨rfl, rfl⟩
      · exact absurd rfl hk
      · simp)
    cases this
  · have := c (fun z => z ≠ 1) (by decide) (fun k y hy hk => by
      rcases aE4_at hy with ⟨rfl, rfl⟩ | ⟨rfl, rfl⟩
      · simp
      · exact absurd rfl hk)
    exact this rfl
theorem aI3 : Ids aE3 [11, 12] := ⟨by decide, fun i => ⟨fun h => by
    simp at h; rcases h with rfl | rfl <;> rfl, fun h => by
    obtain ⟨x, hx⟩ := Option.isSome_iff_exists.1 h
    rcases aE3_at hx with ⟨rfl, _⟩ | ⟨rfl, _⟩ <;> simp⟩⟩
theorem aI4 : Ids aE4 [11, 14] := ⟨by decide, fun i => ⟨fun h => by
    simp at h; rcases h with rfl | rfl <;> rfl, fun h => by
    obtain ⟨x, hx⟩ := Option.isSome_iff_exists.1 h
    rcases aE4_at hx with ⟨rfl, _⟩ | ⟨rfl, _⟩ <;> simp⟩⟩
theorem aB : IsBn aD4 1 2 14 := by
  constructor
  · have e1 : Cn (fun k => k = 14 ∨ lgt aD4 k 14) aD4 0 1 := Cn.edge (i := 11) (x := ⟨0, 1, 4⟩) rfl (.inr ⟨⟨0, 1, 4⟩, ⟨2, 0, 4⟩, rfl, rfl, .inr ⟨rfl, by decide⟩⟩)
    have e2 : Cn (fun k => k = 14 ∨ lgt aD4 k 14) aD4 2 0 := Cn.edge (i := 14) (x := ⟨2, 0, 4⟩) rfl (.inl rfl)
    exact e1.symm.trans e2.symm
  · intro c
    have := c (fun z => z ≠ 2) (by decide) (fun k y hy hk => by
      obtain ⟨a, b, h1, h2, h3⟩ := hk
      have hb : b = ⟨2, 0, 4⟩ := by
        have : aD4 14 = some ⟨2, 0, 4⟩ := rfl
        rw [this] at h2; injection h2 with h2; exact h2.symm
      subst hb
      rw [hy] at h1
      injection h1 with h1
      subst h1
      rcases aD4_at hy with ⟨rfl, rfl⟩ | ⟨rfl, rfl⟩ | ⟨rfl, rfl⟩ | ⟨rfl, rfl⟩
      · simp at h3
      · simp
      · simp at h3
      · simp at h3)
    exact this rfl

theorem ML.no {k : Nat} (h : 5000000000000 ≤ k) : ¬ ML 1 k := fun x => by have := x.2; omega
set_option maxRecDepth 100000 in
set_option maxHeartbeats 4000000 in
theorem awake7 (w : World) : Calls Try.prog 9 #[] w fun e w' => e = .returned (.bool true) ∧ Below w.heap.size w w' := by
  go_enter Try.func9, Try.ntmps9
  go_wp2_with fail
  refine (new7 w o0 1 4 (by omega) (by omega)).mono ?_
  rintro e w1 ⟨p, o1, rfl, X1, s1⟩
  have b1 := s1.posM (by omega)
  clear s1
  go_wp2_with fail
  refine (insert_ok w1 o1 1 p 4 _ _ 0 0 11 0 1 4 X1 (by omega) (by omega) (by omega) (by omega) (by omega) rfl (by omega) (by omega)).mono ?_
  rintro e w2 ⟨rfl, o2, ed2, X2, s2⟩
  have b2 := b1.trans (s2.posM (by omega))
  clear s2 b1 X1
  go_wp2_with fail
  refine (insert_ok w2 o2 1 p 4 _ _ 1 1 12 1 2 7 X2 (by omega) (by omega) (by omega) (by omega) (by omega) rfl (by omega) (by omega)).mono ?_
  rintro e w3 ⟨rfl, o3, ed3, X3, s3⟩
  have b3 := b2.trans (s3.posM (by omega))
  clear s3 b2 X2
  go_wp2_with fail
  refine (insert_ok w3 o3 1 p 4 _ _ 2 2 13 0 2 9 X3 (by omega) (by omega) (by omega) (by omega) (by omega) rfl (by omega) (by omega)).mono ?_
  rintro e w4 ⟨rfl, o4, ed4, X4, s4⟩
  have b4 := b3.trans (s4.posM (by omega))
  clear s4 b3 X3
  have X4 : Mx w4 o4 1 p 4 aD3 ed4 3 3 := X4
  have e4 : ed4 = aE3 := X4.1.1.uniq aM3 X4.acy aA3
  subst e4
  go_wp2_with fail
  refine (all_in w4 o4 1 6000000000000 6000000000001 p 4 aD3 aE3 3 3 X4 (by omega) (ML.no (by omega)) (ML.no (by omega)) (by omega)).mono ?_
  rintro e w5 ⟨l5, v5, o5, rfl, i5, so5, _, r5, X5, s5⟩
  have b5 := b4.trans (s5.mono (J := Pos) fun k hk => by unfold Pos; omega)
  obtain rfl : l5 = [11, 12] := i5.eq aI3 so5 (by decide)
  have v5v := r5.vw
  clear s5 b4 X4 i5 so5 r5
  have s6 := newStep (fun _ => False) w5 o5 6000000000002 (.cells #[.int .i64 11, .int .i64 12] 3)
  have u6 := Vw.typed w5 o5 6000000000002 [11, 12] #[.int .i64 11, .int .i64 12] 3 2 rfl rfl (by simp)
  have v6 := v5v.step s6 id
  have X6 := X5.step s6 (fun _ _ => id)
  have b6 := b5.trans s6.pos0
  have hsm := same_true _ _ _ _ _ _ _ _ v6 u6 (by simp)
  generalize newLab w5 o5 6000000000002 = o6 at s6 u6 v6 X6 b6
  clear v5v X5 b5 s6 u6 v6
  go_wp2_with fail
  refine hsm.mono ?_
  rintro e w7 ⟨rfl, m7, hw7⟩
  have s7 : Step (fun _ => False) _ o6 w7 o6 := hw7 ▸ (Step.refl _ _ _).drewN m7
  have X7 := X6.step s7 (fun _ _ => id)
  have b7 := b6.trans s7.pos0
  clear X6 b6 s7 hw7 hsm
  go_wp2_with fail
  refine (weight_in w7 o6 1 6000000000003 p 4 aD3 aE3 3 3 X7 (by omega) (ML.no (by omega))).mono ?_
  rintro e w8 ⟨l8, i8, rfl, o8, X8, s8⟩
  have b8 := b7.trans (s8.mono (J := Pos) fun k hk => by unfold Pos; omega)
  have hsum : (l8.map (wOf aE3)).sum = 11 := by rw [sum_perm _ (i8.perm aI3)]; rfl
  rw [hsum]
  clear s8 b7 X7 i8 hsum
  go_wp2_with fail
  refine (insert_ok w8 o8 1 p 4 _ _ 3 3 14 2 0 4 X8 (by omega) (by omega) (by omega) (by omega) (by omega) rfl (by omega) (by omega)).mono ?_
  rintro e w9 ⟨rfl, o9, ed9, X9, s9⟩
  have b9 := b8.trans (s9.posM (by omega))
  clear s9 b8 X8
  have X9 : Mx w9 o9 1 p 4 aD4 ed9 4 4 := X9
  have e9 : ed9 = aE4 := X9.1.1.uniq aM4 X9.acy aA4
  subst e9
  go_wp2_with fail
  refine (all_in w9 o9 1 6000000000000 6000000000001 p 4 aD4 aE4 4 4 X9 (by omega) (ML.no (by omega)) (ML.no (by omega)) (by omega)).mono ?_
  rintro e w10 ⟨l10, v10, o10, rfl, i10, so10, _, r10, X10, s10⟩
  have b10 := b9.trans (s10.mono (J := Pos) fun k hk => by unfold Pos; omega)
  obtain rfl : l10 = [11, 14] := i10.eq aI4 so10 (by decide)
  have v10v := r10.vw
  clear s10 b9 X9 i10 so10 r10
  have s11 := newStep (fun _ => False) w10 o10 6000000000002 (.cells #[.int .i64 11, .int .i64 14] 3)
  have u11 := Vw.typed w10 o10 6000000000002 [11, 14] #[.int .i64 11, .int .i64 14] 3 2 rfl rfl (by simp)
  have v11 := v10v.step s11 id
  have X11 := X10.step s11 (fun _ _ => id)
  have b11 := b10.trans s11.pos0
  have hsm := same_true _ _ _ _ _ _ _ _ v11 u11 (by simp)
  generalize newLab w10 o10 6000000000002 = o11 at s11 u11 v11 X11 b11
  clear v10v X10 b10 s11 u11 v11
  go_wp2_with fail
  refine hsm.mono ?_
  rintro e w12 ⟨rfl, m12, hw12⟩
  have s12 : Step (fun _ => False) _ o11 w12 o11 := hw12 ▸ (Step.refl _ _ _).drewN m12
  have X12 := X11.step s12 (fun _ _ => id)
  have b12 := b11.trans s12.pos0
  clear X11 b11 s12 hw12 hsm
  go_wp2_with fail
  refine (bottle_ok w12 o11 1 p 4 aD4 aE4 4 4 1 2 X12 (by omega) (by omega) (by omega) (aB.1.mono fun k x hx _ => ⟨hx, trivial⟩)).mono ?_
  rintro e w13 ⟨t, y, rfl, ⟨hty, hbn⟩, o13, X13, s13⟩
  obtain rfl : t = 14 := hbn.uniq aB hty (show aD4 14 = some ⟨2, 0, 4⟩ from rfl)
  obtain rfl : y = ⟨2, 0, 4⟩ := by
    have : aD4 14 = some ⟨2, 0, 4⟩ := rfl
    rw [this] at hty; injection hty with hty; exact hty.symm
  have b13 := b12.trans (s13.posM (by omega))
  have b14 := (b13.trans (newB5 w13 o13 (.cells #[.int .i64 14, .int .i64 2, .int .i64 0, .int .i64 4] 43)).pos0).old
  clear s13 b12 X12 X13 b13 hbn hty
  go_wp2
  go_ret
  exact ⟨by first | rfl | exact ret_bool (by simp), b14⟩

end Go.Proofs.Ytffmlffhiimmdaa
