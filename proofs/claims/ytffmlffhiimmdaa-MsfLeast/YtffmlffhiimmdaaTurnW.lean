/- The walk of a turn. -/
import Derived.Test.YtffmlffhiimmdaaTop5
import Derived.Deep.CutBlock
import Derived.Deep.DeepCutAuto
namespace Go.Proofs.Ytffmlffhiimmdaa
open Go.ChangeShapes Go.WideShapes Go.ChangeAt Go.RowKit
set_option linter.unusedVariables false

/-- Paths in memory. -/
structure Gw (w : World) (o : Nat → Nat) (L : Nat) (live : Nat → Prop) (pt : Nat → Nat) (E : Nat → Ed) (nd : Nat → Ln) (hv : Nat → Nat) (T S : Nat → List Nat) (P : Nat → Nat) : Prop where
  m : Lm w o L live pt E nd hv
  s : Small live
  c : Lc live nd T S P
  v : Hv E live T hv
structure TurnOut (live : Nat → Prop) (nd : Nat → Ln) (T S : Nat → List Nat) (h u : Nat) (nd' : Nat → Ln) (T' : Nat → List Nat) : Prop where
  top : T' h = T u
  up : (nd' h).up = (nd u).up
  tw : ∀ k, live k → (nd' k).tw = (nd k).tw
  kl : (nd u).l = h → (nd' h).l = (nd h).l
  kr : (nd u).l ≠ h → (nd' h).r = (nd h).r
  pl : live (nd u).up → (nd (nd u).up).l = u → (nd' (nd u).up).l = h
  pr : live (nd u).up → (nd (nd u).up).r = u → (nd' (nd u).up).r = h
  off : ∀ k, live k → S k ≠ S h → nd' k = nd k ∧ T' k = T k

set_option maxRecDepth 100000 in
set_option maxHeartbeats 4000000 in
theorem turnL_walk (w : World) (o : Nat → Nat) (L : Nat) (live : Nat → Prop) (pt : Nat → Nat) (E : Nat → Ed) (nd : Nat → Ln) (hv : Nat → Nat) (T S : Nat → List Nat) (P : Nat → Nat) (h u : Nat) (G : Gw w o L live pt E nd hv T S P) (hl : live h) (hu : (nd h).up = u) (ul : live u) (e : (nd u).l = h) (twh : (nd h).tw = false) (twu : (nd u).tw = false) :
    Calls Try.prog 79 #[.pointer (some ⟨pt h, 0, none⟩)] w fun e w' => e = .returned (.tuple #[]) ∧ ∃ a b, Lm w' o L live pt E (rotLN nd h u) (upd (upd hv u a) h b) ∧ TopE E (rotLT nd T h u u) a ∧ TopE E (rotLT nd T h u h) b ∧ Step (NL L) w o w' o := by
  have F := G.m
  have hs := G.s
  have cl := G.c.cl
  have h0 := hs.ne hl
  have u0 := hs.ne ul
  have NE := G.c.near hl ul (.inl e)
  have c0 := (F.node hl).up
  rw [hu, pqn pt u0] at c0
  have fz := (F.node hl).fz
  have cr := (F.node hl).r
  have cu := (F.node ul).up
  have HS : Hid (∀ m, Calls Try.prog 80 #[.pointer (some ⟨pt h, 0, none⟩)] (w.drewN m) fun e w' => e = .returned (.int .i64 0) ∧ w' = w.drewN m) := fun m => by
    have := side_cl (w.drewN m) o L live pt E nd hv h (F.quiet ((Step.refl _ w o).drewN m)) hs cl hl (by rw [hu]; exact u0)
    rwa [hu, if_pos e] at this
  have HT : Hid (∀ m, Calls Try.prog 78 #[.pointer (some ⟨pt u, 0, none⟩)] (w.drewN m) fun e w' => e = .returned (.bool (decide (TopN nd u))) ∧ w' = w.drewN m) := fun m => isTop_cl (w.drewN m) o L live pt E nd hv u (F.quiet ((Step.refl _ w o).drewN m)) hs cl ul
  have clP : ∀ k, live k → place nd h u k = place nd h u k := fun _ _ => rfl
  have HR1 : Hid (∀ wx, Lm wx o L live pt E (place nd h u) hv → (wx.cell? ⟨pt h, 2, none⟩ = some (.pointer (pq pt (nd h).r))) ∧ Calls Try.prog 88 #[.pointer (some ⟨pt u, 0, none⟩), .int .i64 0, .pointer (pq pt (nd h).r)] wx fun e w' => e = .returned (.tuple #[]) ∧ Lm w' o L live pt E (hangN (place nd h u) u 0 (nd h).r) hv ∧ Step (NL L) wx o w' o) := fun wx Fx => by
    refine ⟨?_, hang_any wx o L live pt E _ hv u 0 (nd h).r Fx hs ul (by simp) (cl h hl).2.2 NE.rh.2⟩
    have := (Fx.node hl).r
    rwa [place_h NE hl cl] at this
  have HR2 : Hid (∀ wx, Lm wx o L live pt E (hangN (place nd h u) u 0 (nd h).r) hv → Calls Try.prog 88 #[.pointer (some ⟨pt h, 0, none⟩), .int .i64 1, .pointer (some ⟨pt u, 0, none⟩)] wx fun e w' => e = .returned (.tuple #[]) ∧ Lm w' o L live pt E (rotLN nd h u) hv ∧ Step (NL L) wx o w' o) := fun wx Fx => by
    have := hang_any wx o L live pt E _ hv h 1 u Fx hs hl (by simp) (fun _ => ul) (Ne.symm NE.hu)
    rw [pqn pt u0] at this
    refine this.mono ?_
    rintro e w' ⟨rfl, F', S'⟩
    exact ⟨rfl, F'.congr (fun k lk => (turnL_eq NE hl hs cl e twh twu lk).symm) (fun _ _ => rfl), S'⟩
  have H2 := G.c.rotL hl ul e twh twu
  have hc := G.v.hc G.c
  have ehr : rotLN nd h u h = ⟨(nd u).up, (nd h).l, u, false⟩ := by unfold rotLN; rw [if_pos rfl]
  have eur : rotLN nd h u u = ⟨h, (nd h).r, (nd u).r, false⟩ := by unfold rotLN; rw [if_neg (Ne.symm NE.hu), if_pos rfl]
  have tu : TopE E (rotLT nd T h u u) (reckN E (rotLN nd h u) hv u) := by
    have e1 : rotLT nd T h u u = T (nd h).r ++ u :: T (nd u).r := by unfold rotLT; rw [if_neg (Ne.symm NE.hu), if_pos rfl]
    rw [e1]
    refine reck_top (c := 0) (d := 0) u0 ?_ ?_ <;> rw [eur]
    · exact G.v.at G.c (cl h hl).2.2
    · exact G.v.at G.c (cl u ul).2.2
  have hcu : reckN E (rotLN nd h u) hv u ≠ 0 → live (reckN E (rotLN nd h u) hv u) ∧ reckN E (rotLN nd h u) hv u % 2 = 0 := fun x => by
    rcases tu with ⟨a, _⟩ | ⟨_, a, b, _⟩
    · exact absurd a x
    · exact ⟨(H2.sub ul a).1, b⟩
  have HR3 : Hid (∀ wx, Lm wx o L live pt E (rotLN nd h u) hv → Calls Try.prog 58 #[.pointer (some ⟨pt u, 0, none⟩)] wx fun e w' => e = .returned (.tuple #[]) ∧ Lm w' o L live pt E (rotLN nd h u) (upd hv u (reckN E (rotLN nd h u) hv u)) ∧ Step (NL L) wx o w' o) := fun wx Fx =>
    reckon_any wx o L live pt E _ hv u Fx hs H2.cl hc ul (H2.ne_l ul) (H2.ne_r ul)
  generalize hA : reckN E (rotLN nd h u) hv u = A at tu hcu HR3
  have hc2 : Hc live (upd hv u A) := fun k lk => by
    unfold upd
    split
    · exact hcu
    · exact hc k lk
  have th : TopE E (rotLT nd T h u h) (reckN E (rotLN nd h u) (upd hv u A) h) := by
    have e1 := H2.t h hl
    rw [ehr] at e1
    simp only [Bool.false_eq_true, if_false] at e1
    rw [e1]
    refine reck_top (c := 0) (d := 0) h0 ?_ ?_ <;> rw [ehr] <;> unfold hvs upd
    · rw [if_neg NE.lh.2]
      have := G.v.at G.c (cl h hl).2.1
      unfold hvs at this
      refine this.congr fun x => ?_
      show x ∈ rotLT nd T h u (nd h).l ↔ _
      unfold rotLT
      rw [if_neg NE.lh.1, if_neg NE.lh.2]
    · rw [if_neg u0, if_pos rfl]; exact tu
  have HR4 : Hid (∀ wx, Lm wx o L live pt E (rotLN nd h u) (upd hv u A) → Calls Try.prog 58 #[.pointer (some ⟨pt h, 0, none⟩)] wx fun e w' => e = .returned (.tuple #[]) ∧ Lm w' o L live pt E (rotLN nd h u) (upd (upd hv u A) h (reckN E (rotLN nd h u) (upd hv u A) h)) ∧ Step (NL L) wx o w' o) := fun wx Fx =>
    reckon_any wx o L live pt E _ _ h Fx hs H2.cl hc2 hl (H2.ne_l hl) (H2.ne_r hl)
  by_cases t : TopN nd u
  · have HP : Lm (w.setCell ⟨pt h, 0, none⟩ (.pointer (pq pt (nd u).up))) o L live pt E (place nd h u) hv ∧ Step (NL L) w o (w.setCell ⟨pt h, 0, none⟩ (.pointer (pq pt (nd u).up))) o := by
      have := F.set_up hs hl (nd u).up
      unfold place
      rw [if_pos t]
      exact this
    rw [decide_eq_true t] at HT
    clear F G cl hc hc2 hcu NE ehr eur H2 e
    go_enter Try.func79, Try.ntmps79
    go_wp2_with fail
    go_quiet ((go_at_call 80; exact Calls.quiet_of_same (HS.out _)))
    rename_i nq
    go_wp2_with fail
    refine (HT.out _).mono ?_
    rintro e w0 ⟨rfl, rfl⟩
    clear HS HT
    have F1 := HP.1.quiet ((Step.refl (fun _ => False) _ o).drewN nq)
    have S0 := HP.2.drewN nq
    obtain ⟨cr1, hr1⟩ := HR1.out _ F1
    go_wp2_with fail
    refine hr1.mono ?_
    rintro e w2 ⟨rfl, F2, S2⟩
    have S2 := S0.trans S2
    clear S0 hr1 HR1
    go_wp2_with fail
    refine (HR2.out _ F2).mono ?_
    rintro e w3 ⟨rfl, F3, S3⟩
    have S3 := S2.trans S3
    clear S2 F2 HR2
    go_wp2_with fail
    refine (HR3.out _ F3).mono ?_
    rintro e w4 ⟨rfl, F4, S4⟩
    have S4 := S3.trans S4
    clear S3 F3 HR3
    go_wp2_with fail
    refine (HR4.out _ F4).mono ?_
    rintro e w5 ⟨rfl, F5, S5⟩
    have S5 := S4.trans S5
    clear S4 F4 HR4
    go_wp2
    go_end0
    exact ⟨rfl, _, _, F5, tu, th, S5⟩
  · have g0 : (nd u).up ≠ 0 := fun x => t (.inl x)
    have gl := (cl u ul).1 g0
    have gne := (NE.par (nd u).up gl (by by_cases q : (nd (nd u).up).l = u; exact .inl q; exact .inr (Classical.byContradiction fun x => t (.inr ⟨q, x⟩)))).2
    rw [decide_eq_false t] at HT
    rw [pqn pt g0] at cu
    have HS2 : Hid (∀ m, Calls Try.prog 80 #[.pointer (some ⟨pt u, 0, none⟩)] (w.drewN m) fun e w' => e = .returned (.int .i64 ((if (nd (nd u).up).l = u then 0 else 1 : Nat) : Int)) ∧ w' = w.drewN m) := fun m => by
      have := side_cl (w.drewN m) o L live pt E nd hv u (F.quiet ((Step.refl _ w o).drewN m)) hs cl ul g0
      refine this.mono ?_
      rintro e w' ⟨rfl, rfl⟩
      refine ⟨?_, rfl⟩
      split <;> rfl
    have HP : Hid (∀ m, Calls Try.prog 88 #[.pointer (some ⟨pt (nd u).up, 0, none⟩), .int .i64 ((if (nd (nd u).up).l = u then 0 else 1 : Nat) : Int), .pointer (some ⟨pt h, 0, none⟩)] (w.drewN m) fun e w' => e = .returned (.tuple #[]) ∧ Lm w' o L live pt E (place nd h u) hv ∧ Step (NL L) w o w' o) := fun m => by
      have := hang_any (w.drewN m) o L live pt E nd hv (nd u).up (if (nd (nd u).up).l = u then 0 else 1) h (F.quiet ((Step.refl _ w o).drewN m)) hs gl (by split <;> simp) (fun _ => hl) (Ne.symm gne.1)
      rw [pqn pt h0] at this
      unfold place
      rw [if_neg t]
      refine this.mono ?_
      rintro e w' ⟨rfl, F', S'⟩
      exact ⟨rfl, F', ((Step.refl _ w o).drewN m).trans S'⟩
    generalize ((if (nd (nd u).up).l = u then 0 else 1 : Nat) : Int) = sd at HS2 HP
    clear F G cl hc hc2 hcu NE ehr eur H2 e
    go_enter Try.func79, Try.ntmps79
    go_wp2_with fail
    go_quiet ((go_at_call 80; exact Calls.quiet_of_same (HS.out _)))
    rename_i nq
    go_wp2_with fail
    refine (HT.out _).mono ?_
    rintro e w0 ⟨rfl, rfl⟩
    clear HS HT
    go_wp2_with fail
    go_region_with (first | (go_at_call 80; refine (HS2.out (nq + 1)).mono ?_; rintro e w9 ⟨rfl, rfl⟩) | (go_at_call 88; refine (HP.out (nq + 1)).mono ?_; rintro e w1 ⟨rfl, F1, S0⟩; obtain ⟨cr1, hr1⟩ := HR1.out _ F1))
    all_goals
      clear HS2 HP
      go_wp2_with fail
      refine hr1.mono ?_
      rintro e w2 ⟨rfl, F2, S2⟩
      have S2 := S0.trans S2
      clear S0 hr1 HR1
      go_wp2_with fail
      refine (HR2.out _ F2).mono ?_
      rintro e w3 ⟨rfl, F3, S3⟩
      have S3 := S2.trans S3
      clear S2 F2 HR2
      go_wp2_with fail
      refine (HR3.out _ F3).mono ?_
      rintro e w4 ⟨rfl, F4, S4⟩
      have S4 := S3.trans S4
      clear S3 F3 HR3
      go_wp2_with fail
      refine (HR4.out _ F4).mono ?_
      rintro e w5 ⟨rfl, F5, S5⟩
      have S5 := S4.trans S5
      clear S4 F4 HR4
      go_wp2
      go_end0
      exact ⟨rfl, _, _, F5, tu, th, S5⟩

set_option maxRecDepth 100000 in
set_option maxHeartbeats 4000000 in
theorem turnR_walk (w : World) (o : Nat → Nat) (L : Nat) (live : Nat → Prop) (pt : Nat → Nat) (E : Nat → Ed) (nd : Nat → Ln) (hv : Nat → Nat) (T S : Nat → List Nat) (P : Nat → Nat) (h u : Nat) (G : Gw w o L live pt E nd hv T S P) (hl : live h) (hu : (nd h).up = u) (ul : live u) (e : (nd u).r = h) (twh : (nd h).tw = false) (twu : (nd u).tw = false) :
    Calls Try.prog 79 #[.pointer (some ⟨pt h, 0, none⟩)] w fun e w' => e = .returned (.tuple #[]) ∧ ∃ a b, Lm w' o L live pt E (rotRN nd h u) (upd (upd hv u a) h b) ∧ TopE E (rotRT nd T h u u) a ∧ TopE E (rotRT nd T h u h) b ∧ Step (NL L) w o w' o := by
  have F := G.m
  have hs := G.s
  have cl := G.c.cl
  have h0 := hs.ne hl
  have u0 := hs.ne ul
  have e1 : (nd u).l ≠ h := fun x => G.c.lr ul (by rw [x]; exact G.s.ne hl) (x.trans e.symm)
  have NE := G.c.near hl ul (.inr e)
  have c0 := (F.node hl).up
  rw [hu, pqn pt u0] at c0
  have fz := (F.node hl).fz
  have cr := (F.node hl).l
  have cu := (F.node ul).up
  have HS : Hid (∀ m, Calls Try.prog 80 #[.pointer (some ⟨pt h, 0, none⟩)] (w.drewN m) fun e w' => e = .returned (.int .i64 1) ∧ w' = w.drewN m) := fun m => by
    have := side_cl (w.drewN m) o L live pt E nd hv h (F.quiet ((Step.refl _ w o).drewN m)) hs cl hl (by rw [hu]; exact u0)
    rwa [hu, if_neg e1] at this
  have HT : Hid (∀ m, Calls Try.prog 78 #[.pointer (some ⟨pt u, 0, none⟩)] (w.drewN m) fun e w' => e = .returned (.bool (decide (TopN nd u))) ∧ w' = w.drewN m) := fun m => isTop_cl (w.drewN m) o L live pt E nd hv u (F.quiet ((Step.refl _ w o).drewN m)) hs cl ul
  have clP : ∀ k, live k → place nd h u k = place nd h u k := fun _ _ => rfl
  have HR1 : Hid (∀ wx, Lm wx o L live pt E (place nd h u) hv → (wx.cell? ⟨pt h, 1, none⟩ = some (.pointer (pq pt (nd h).l))) ∧ Calls Try.prog 88 #[.pointer (some ⟨pt u, 0, none⟩), .int .i64 1, .pointer (pq pt (nd h).l)] wx fun e w' => e = .returned (.tuple #[]) ∧ Lm w' o L live pt E (hangN (place nd h u) u 1 (nd h).l) hv ∧ Step (NL L) wx o w' o) := fun wx Fx => by
    refine ⟨?_, hang_any wx o L live pt E _ hv u 1 (nd h).l Fx hs ul (by simp) (cl h hl).2.1 NE.lh.2⟩
    have := (Fx.node hl).l
    rwa [place_h NE hl cl] at this
  have HR2 : Hid (∀ wx, Lm wx o L live pt E (hangN (place nd h u) u 1 (nd h).l) hv → Calls Try.prog 88 #[.pointer (some ⟨pt h, 0, none⟩), .int .i64 0, .pointer (some ⟨pt u, 0, none⟩)] wx fun e w' => e = .returned (.tuple #[]) ∧ Lm w' o L live pt E (rotRN nd h u) hv ∧ Step (NL L) wx o w' o) := fun wx Fx => by
    have := hang_any wx o L live pt E _ hv h 0 u Fx hs hl (by simp) (fun _ => ul) (Ne.symm NE.hu)
    rw [pqn pt u0] at this
    refine this.mono ?_
    rintro e w' ⟨rfl, F', S'⟩
    exact ⟨rfl, F'.congr (fun k lk => (turnR_eq NE hl hs cl e twh twu lk).symm) (fun _ _ => rfl), S'⟩
  have H2 := G.c.rotR hl ul e twh twu
  have hc := G.v.hc G.c
  have ehr : rotRN nd h u h = ⟨(nd u).up, u, (nd h).r, false⟩ := by unfold rotRN; rw [if_pos rfl]
  have eur : rotRN nd h u u = ⟨h, (nd u).l, (nd h).l, false⟩ := by unfold rotRN; rw [if_neg (Ne.symm NE.hu), if_pos rfl]
  have tu : TopE E (rotRT nd T h u u) (reckN E (rotRN nd h u) hv u) := by
    have e1 : rotRT nd T h u u = T (nd u).l ++ u :: T (nd h).l := by unfold rotRT; rw [if_neg (Ne.symm NE.hu), if_pos rfl]
    rw [e1]
    refine reck_top (c := 0) (d := 0) u0 ?_ ?_ <;> rw [eur]
    · exact G.v.at G.c (cl u ul).2.1
    · exact G.v.at G.c (cl h hl).2.1
  have hcu : reckN E (rotRN nd h u) hv u ≠ 0 → live (reckN E (rotRN nd h u) hv u) ∧ reckN E (rotRN nd h u) hv u % 2 = 0 := fun x => by
    rcases tu with ⟨a, _⟩ | ⟨_, a, b, _⟩
    · exact absurd a x
    · exact ⟨(H2.sub ul a).1, b⟩
  have HR3 : Hid (∀ wx, Lm wx o L live pt E (rotRN nd h u) hv → Calls Try.prog 58 #[.pointer (some ⟨pt u, 0, none⟩)] wx fun e w' => e = .returned (.tuple #[]) ∧ Lm w' o L live pt E (rotRN nd h u) (upd hv u (reckN E (rotRN nd h u) hv u)) ∧ Step (NL L) wx o w' o) := fun wx Fx =>
    reckon_any wx o L live pt E _ hv u Fx hs H2.cl hc ul (H2.ne_l ul) (H2.ne_r ul)
  generalize hA : reckN E (rotRN nd h u) hv u = A at tu hcu HR3
  have hc2 : Hc live (upd hv u A) := fun k lk => by
    unfold upd
    split
    · exact hcu
    · exact hc k lk
  have th : TopE E (rotRT nd T h u h) (reckN E (rotRN nd h u) (upd hv u A) h) := by
    have e1 := H2.t h hl
    rw [ehr] at e1
    simp only [Bool.false_eq_true, if_false] at e1
    rw [e1]
    refine reck_top (c := 0) (d := 0) h0 ?_ ?_ <;> rw [ehr] <;> unfold hvs upd
    · rw [if_neg u0, if_pos rfl]; exact tu
    · rw [if_neg NE.rh.2]
      have := G.v.at G.c (cl h hl).2.2
      unfold hvs at this
      refine this.congr fun x => ?_
      show x ∈ rotRT nd T h u (nd h).r ↔ _
      unfold rotRT
      rw [if_neg NE.rh.1, if_neg NE.rh.2]
  have HR4 : Hid (∀ wx, Lm wx o L live pt E (rotRN nd h u) (upd hv u A) → Calls Try.prog 58 #[.pointer (some ⟨pt h, 0, none⟩)] wx fun e w' => e = .returned (.tuple #[]) ∧ Lm w' o L live pt E (rotRN nd h u) (upd (upd hv u A) h (reckN E (rotRN nd h u) (upd hv u A) h)) ∧ Step (NL L) wx o w' o) := fun wx Fx =>
    reckon_any wx o L live pt E _ _ h Fx hs H2.cl hc2 hl (H2.ne_l hl) (H2.ne_r hl)
  by_cases t : TopN nd u
  · have HP : Lm (w.setCell ⟨pt h, 0, none⟩ (.pointer (pq pt (nd u).up))) o L live pt E (place nd h u) hv ∧ Step (NL L) w o (w.setCell ⟨pt h, 0, none⟩ (.pointer (pq pt (nd u).up))) o := by
      have := F.set_up hs hl (nd u).up
      unfold place
      rw [if_pos t]
      exact this
    rw [decide_eq_true t] at HT
    clear F G cl hc hc2 hcu NE ehr eur H2 e
    go_enter Try.func79, Try.ntmps79
    go_wp2_with fail
    go_quiet ((go_at_call 80; exact Calls.quiet_of_same (HS.out _)))
    rename_i nq
    go_wp2_with fail
    refine (HT.out _).mono ?_
    rintro e w0 ⟨rfl, rfl⟩
    clear HS HT
    have F1 := HP.1.quiet ((Step.refl (fun _ => False) _ o).drewN nq)
    have S0 := HP.2.drewN nq
    obtain ⟨cr1, hr1⟩ := HR1.out _ F1
    go_wp2_with fail
    refine hr1.mono ?_
    rintro e w2 ⟨rfl, F2, S2⟩
    have S2 := S0.trans S2
    clear S0 hr1 HR1
    go_wp2_with fail
    refine (HR2.out _ F2).mono ?_
    rintro e w3 ⟨rfl, F3, S3⟩
    have S3 := S2.trans S3
    clear S2 F2 HR2
    go_wp2_with fail
    refine (HR3.out _ F3).mono ?_
    rintro e w4 ⟨rfl, F4, S4⟩
    have S4 := S3.trans S4
    clear S3 F3 HR3
    go_wp2_with fail
    refine (HR4.out _ F4).mono ?_
    rintro e w5 ⟨rfl, F5, S5⟩
    have S5 := S4.trans S5
    clear S4 F4 HR4
    go_wp2
    go_end0
    exact ⟨rfl, _, _, F5, tu, th, S5⟩
  · have g0 : (nd u).up ≠ 0 := fun x => t (.inl x)
    have gl := (cl u ul).1 g0
    have gne := (NE.par (nd u).up gl (by by_cases q : (nd (nd u).up).l = u; exact .inl q; exact .inr (Classical.byContradiction fun x => t (.inr ⟨q, x⟩)))).2
    rw [decide_eq_false t] at HT
    rw [pqn pt g0] at cu
    have HS2 : Hid (∀ m, Calls Try.prog 80 #[.pointer (some ⟨pt u, 0, none⟩)] (w.drewN m) fun e w' => e = .returned (.int .i64 ((if (nd (nd u).up).l = u then 0 else 1 : Nat) : Int)) ∧ w' = w.drewN m) := fun m => by
      have := side_cl (w.drewN m) o L live pt E nd hv u (F.quiet ((Step.refl _ w o).drewN m)) hs cl ul g0
      refine this.mono ?_
      rintro e w' ⟨rfl, rfl⟩
      refine ⟨?_, rfl⟩
      split <;> rfl
    have HP : Hid (∀ m, Calls Try.prog 88 #[.pointer (some ⟨pt (nd u).up, 0, none⟩), .int .i64 ((if (nd (nd u).up).l = u then 0 else 1 : Nat) : Int), .pointer (some ⟨pt h, 0, none⟩)] (w.drewN m) fun e w' => e = .returned (.tuple #[]) ∧ Lm w' o L live pt E (place nd h u) hv ∧ Step (NL L) w o w' o) := fun m => by
      have := hang_any (w.drewN m) o L live pt E nd hv (nd u).up (if (nd (nd u).up).l = u then 0 else 1) h (F.quiet ((Step.refl _ w o).drewN m)) hs gl (by split <;> simp) (fun _ => hl) (Ne.symm gne.1)
      rw [pqn pt h0] at this
      unfold place
      rw [if_neg t]
      refine this.mono ?_
      rintro e w' ⟨rfl, F', S'⟩
      exact ⟨rfl, F', ((Step.refl _ w o).drewN m).trans S'⟩
    generalize ((if (nd (nd u).up).l = u then 0 else 1 : Nat) : Int) = sd at HS2 HP
    clear F G cl hc hc2 hcu NE ehr eur H2 e
    go_enter Try.func79, Try.ntmps79
    go_wp2_with fail
    go_quiet ((go_at_call 80; exact Calls.quiet_of_same (HS.out _)))
    rename_i nq
    go_wp2_with fail
    refine (HT.out _).mono ?_
    rintro e w0 ⟨rfl, rfl⟩
    clear HS HT
    go_wp2_with fail
    go_region_with (first | (go_at_call 80; refine (HS2.out (nq + 1)).mono ?_; rintro e w9 ⟨rfl, rfl⟩) | (go_at_call 88; refine (HP.out (nq + 1)).mono ?_; rintro e w1 ⟨rfl, F1, S0⟩; obtain ⟨cr1, hr1⟩ := HR1.out _ F1))
    all_goals
      clear HS2 HP
      go_wp2_with fail
      refine hr1.mono ?_
      rintro e w2 ⟨rfl, F2, S2⟩
      have S2 := S0.trans S2
      clear S0 hr1 HR1
      go_wp2_with fail
      refine (HR2.out _ F2).mono ?_
      rintro e w3 ⟨rfl, F3, S3⟩
      have S3 := S2.trans S3
      clear S2 F2 HR2
      go_wp2_with fail
      refine (HR3.out _ F3).mono ?_
      rintro e w4 ⟨rfl, F4, S4⟩
      have S4 := S3.trans S4
      clear S3 F3 HR3
      go_wp2_with fail
      refine (HR4.out _ F4).mono ?_
      rintro e w5 ⟨rfl, F5, S5⟩
      have S5 := S4.trans S5
      clear S4 F4 HR4
      go_wp2
      go_end0
      exact ⟨rfl, _, _, F5, tu, th, S5⟩


theorem Lc.Su {live : Nat → Prop} {nd : Nat → Ln} {T S : Nat → List Nat} {P : Nat → Nat} {h u : Nat} (H : Lc live nd T S P) (ul : live u) (h0 : h ≠ 0) (e : (nd u).l = h ∨ (nd u).r = h) : S u = S h := by
  rcases e with e | e
  · have := (H.l u ul (by rw [e]; exact h0)).2.2; rw [e] at this; exact this.symm
  · have := (H.r u ul (by rw [e]; exact h0)).2.2; rw [e] at this; exact this.symm
theorem turn_any (w : World) (o : Nat → Nat) (L : Nat) (live : Nat → Prop) (pt : Nat → Nat) (E : Nat → Ed) (nd : Nat → Ln) (hv : Nat → Nat) (T S : Nat → List Nat) (P : Nat → Nat) (h u : Nat) (G : Gw w o L live pt E nd hv T S P) (hl : live h) (hu : (nd h).up = u) (ul : live u) (e : (nd u).l = h ∨ (nd u).r = h) (twh : (nd h).tw = false) (twu : (nd u).tw = false) :
    Calls Try.prog 79 #[.pointer (some ⟨pt h, 0, none⟩)] w fun e w' => e = .returned (.tuple #[]) ∧ ∃ nd' hv' T', Gw w' o L live pt E nd' hv' T' S P ∧ TurnOut live nd T S h u nd' T' ∧ Step (NL L) w o w' o := by
  have NE := G.c.near hl ul e
  have one : (nd u).l = h → (nd u).r ≠ h := fun x y => G.c.lr ul (by rw [x]; exact G.s.ne hl) (x.trans y.symm)
  rcases e with e | e
  · refine (turnL_walk w o L live pt E nd hv T S P h u G hl hu ul e twh twu).mono ?_
    rintro ee w' ⟨rfl, a, b, F', ta, tb, S'⟩
    refine ⟨rfl, _, _, _, ⟨F', G.s, G.c.rotL hl ul e twh twu, fun k lk => ?_⟩, ⟨?_, ?_, ?_, ?_, ?_, ?_, ?_, ?_⟩, S'⟩
    · unfold upd
      by_cases kh : k = h
      · subst kh; rw [if_pos rfl]; exact tb
      · rw [if_neg kh]
        by_cases ku : k = u
        · subst ku; rw [if_pos rfl]; exact ta
        · rw [if_neg ku]; unfold rotLT; rw [if_neg kh, if_neg ku]; exact G.v k lk
    · unfold rotLT; rw [if_pos rfl]
    · unfold rotLN; rw [if_pos rfl]
    · intro k lk
      unfold rotLN
      by_cases kh : k = h
      · subst kh; rw [if_pos rfl, twh]
      · rw [if_neg kh]
        by_cases ku : k = u
        · subst ku; rw [if_pos rfl, twu]
        · rw [if_neg ku]
    · intro _; unfold rotLN; rw [if_pos rfl]
    · exact fun x => absurd e x
    · intro lg q
      have r := (NE.par _ lg (.inl q)).2
      unfold rotLN; rw [if_neg r.1, if_neg r.2.1]; simp [q]
    · intro lg q
      have r := (NE.par _ lg (.inr q)).2
      unfold rotLN; rw [if_neg r.1, if_neg r.2.1]; simp [q]
    · intro k lk sk
      have su := G.c.Su ul (G.s.ne hl) (.inl e)
      have kh : k ≠ h := fun x => sk (by rw [x])
      have ku : k ≠ u := fun x => sk (by rw [x, su])
      have kc : ¬ (k ≠ 0 ∧ k = (nd h).r) := fun x => sk (by have := (G.c.r h hl (by rw [← x.2]; exact x.1)).2.2; rw [← x.2] at this; exact this)
      have kl : (nd k).l ≠ u := fun x => sk (by rw [G.c.Su lk (G.s.ne ul) (.inl x), su])
      have kr : (nd k).r ≠ u := fun x => sk (by rw [G.c.Su lk (G.s.ne ul) (.inr x), su])
      refine ⟨?_, ?_⟩
      · unfold rotLN; rw [if_neg kh, if_neg ku, if_neg kc, if_neg kl, if_neg kr]
      · unfold rotLT; rw [if_neg kh, if_neg ku]
  · have e1 : (nd u).l ≠ h := fun x => one x e
    refine (turnR_walk w o L live pt E nd hv T S P h u G hl hu ul e twh twu).mono ?_
    rintro ee w' ⟨rfl, a, b, F', ta, tb, S'⟩
    refine ⟨rfl, _, _, _, ⟨F', G.s, G.c.rotR hl ul e twh twu, fun k lk => ?_⟩, ⟨?_, ?_, ?_, ?_, ?_, ?_, ?_, ?_⟩, S'⟩
    · unfold upd
      by_cases kh : k = h
      · subst kh; rw [if_pos rfl]; exact tb
      · rw [if_neg kh]
        by_cases ku : k = u
        · subst ku; rw [if_pos rfl]; exact ta
        · rw [if_neg ku]; unfold rotRT; rw [if_neg kh, if_neg ku]; exact G.v k lk
    · unfold rotRT; rw [if_pos rfl]
    · unfold rotRN; rw [if_pos rfl]
    · intro k lk
      unfold rotRN
      by_cases kh : k = h
      · subst kh; rw [if_pos rfl, twh]
      · rw [if_neg kh]
        by_cases ku : k = u
        · subst ku; rw [if_pos rfl, twu]
        · rw [if_neg ku]
    · exact fun x => absurd x e1
    · intro _; unfold rotRN; rw [if_pos rfl]
    · intro lg q
      have r := (NE.par _ lg (.inl q)).2
      unfold rotRN; rw [if_neg r.1, if_neg r.2.1]; simp [q]
    · intro lg q
      have r := (NE.par _ lg (.inr q)).2
      unfold rotRN; rw [if_neg r.1, if_neg r.2.1]; simp [q]
    · intro k lk sk
      have su := G.c.Su ul (G.s.ne hl) (.inr e)
      have kh : k ≠ h := fun x => sk (by rw [x])
      have ku : k ≠ u := fun x => sk (by rw [x, su])
      have kc : ¬ (k ≠ 0 ∧ k = (nd h).l) := fun x => sk (by have := (G.c.l h hl (by rw [← x.2]; exact x.1)).2.2; rw [← x.2] at this; exact this)
      have kl : (nd k).l ≠ u := fun x => sk (by rw [G.c.Su lk (G.s.ne ul) (.inl x), su])
      have kr : (nd k).r ≠ u := fun x => sk (by rw [G.c.Su lk (G.s.ne ul) (.inr x), su])
      refine ⟨?_, ?_⟩
      · unfold rotRN; rw [if_neg kh, if_neg ku, if_neg kc, if_neg kl, if_neg kr]
      · unfold rotRT; rw [if_neg kh, if_neg ku]

end Go.Proofs.Ytffmlffhiimmdaa
