/- The walk of a turn. -/
import Derived.Test.YthdmajddmajjoaaTurn
namespace Go.Proofs.Ythdmajddmajjoaa
open Go.ChangeShapes Go.WideShapes Go.ChangeAt Go.RowKit
set_option linter.unusedVariables false

/-- What the last four calls of a turn at the side ahead ask. -/
theorem Tr.lastR {n : Nat} {free : List Nat} {N : Nat} {nd : Nat → Nd} {T S : Nat → List Nat} (H : Tr (Live n free) N nd T S) {h u : Nat} (hl : Live n free h) (hu : (nd h).up = u) (hu0 : u ≠ 0) (hs : (nd u).l = h) (su : Nat) (au : Ag)
    (e1 : su = ((T (nd h).r).map fun k => (nd k).it).length + 1 + ((T (nd u).r).map fun k => (nd k).it).length) (e2 : au = agg (((T (nd h).r).map fun k => (nd k).it) ++ (nd u).it :: ((T (nd u).r).map fun k => (nd k).it))) :
    (turn1 nd h u (nd u).up h).r = (nd h).r ∧ (turn3 nd h u 0 (nd h).r (nd u).up u).l = (nd h).r ∧ (turn3 nd h u 0 (nd h).r (nd u).up u).r = (nd u).r ∧ (turn3 nd h u 0 (nd h).r (nd u).up u).it = (nd u).it ∧
    Sub n free (turn3 nd h u 0 (nd h).r (nd u).up) (nd h).r ((T (nd h).r).map fun k => (nd k).it) ∧ Sub n free (turn3 nd h u 0 (nd h).r (nd u).up) (nd u).r ((T (nd u).r).map fun k => (nd k).it) ∧
    (upd (turn3 nd h u 0 (nd h).r (nd u).up) u ((turn3 nd h u 0 (nd h).r (nd u).up u).setSum su au) h).l = (nd h).l ∧ (upd (turn3 nd h u 0 (nd h).r (nd u).up) u ((turn3 nd h u 0 (nd h).r (nd u).up u).setSum su au) h).r = u ∧ (upd (turn3 nd h u 0 (nd h).r (nd u).up) u ((turn3 nd h u 0 (nd h).r (nd u).up u).setSum su au) h).it = (nd h).it ∧
    Sub n free (upd (turn3 nd h u 0 (nd h).r (nd u).up) u ((turn3 nd h u 0 (nd h).r (nd u).up u).setSum su au)) (nd h).l ((T (nd h).l).map fun k => (nd k).it) ∧
    Sub n free (upd (turn3 nd h u 0 (nd h).r (nd u).up) u ((turn3 nd h u 0 (nd h).r (nd u).up u).setSum su au)) u (((T (nd h).r).map fun k => (nd k).it) ++ (nd u).it :: ((T (nd u).r).map fun k => (nd k).it)) := by
  have NE := H.near hl hu hu0
  have h0 := H.ne0 hl
  have th := turn3R NE h0 hu0 h hl
  have tu := turn3R NE h0 hu0 u NE.lu
  simp only [if_true, if_neg NE.hu, if_neg (Ne.symm NE.hu)] at th tu
  refine ⟨?_, tu.1, tu.2.1, (turn3_rest ..).1, ?_, ?_, ?_, ?_, ?_, ?_, ?_⟩
  · rw [turn1_r, if_neg]; rintro ⟨e, _⟩; exact NE.o1 e.symm
  · exact H.subOf (fun e => (H.r h hl e).1) _ (fun _ => (turn3_rest ..).2.1) (fun _ => (turn3_rest ..).2.2)
  · exact H.subOf (fun e => (H.r u NE.lu e).1) _ (fun _ => (turn3_rest ..).2.1) (fun _ => (turn3_rest ..).2.2)
  · rw [upd_other _ _ NE.hu]; exact th.1
  · rw [upd_other _ _ NE.hu]; exact th.2.1
  · rw [upd_other _ _ NE.hu]; exact (turn3_rest ..).1
  · refine H.subOf (fun e => (H.l h hl e).1) _ (fun _ => ?_) (fun _ => ?_)
    · rw [upd_other _ _ NE.l2]; exact (turn3_rest ..).2.1
    · rw [upd_other _ _ NE.l2]; exact (turn3_rest ..).2.2
  · refine .inr ⟨NE.lu, ?_, ?_⟩
    · rw [upd_same]; show su = _; rw [e1]; simp; omega
    · rw [upd_same]; exact e2
theorem Tr.lastL {n : Nat} {free : List Nat} {N : Nat} {nd : Nat → Nd} {T S : Nat → List Nat} (H : Tr (Live n free) N nd T S) {h u : Nat} (hl : Live n free h) (hu : (nd h).up = u) (hu0 : u ≠ 0) (hs : (nd u).l ≠ h) (su : Nat) (au : Ag)
    (e1 : su = ((T (nd u).l).map fun k => (nd k).it).length + 1 + ((T (nd h).l).map fun k => (nd k).it).length) (e2 : au = agg (((T (nd u).l).map fun k => (nd k).it) ++ (nd u).it :: ((T (nd h).l).map fun k => (nd k).it))) :
    (turn1 nd h u (nd u).up h).l = (nd h).l ∧ (turn3 nd h u 1 (nd h).l (nd u).up u).l = (nd u).l ∧ (turn3 nd h u 1 (nd h).l (nd u).up u).r = (nd h).l ∧ (turn3 nd h u 1 (nd h).l (nd u).up u).it = (nd u).it ∧
    Sub n free (turn3 nd h u 1 (nd h).l (nd u).up) (nd u).l ((T (nd u).l).map fun k => (nd k).it) ∧ Sub n free (turn3 nd h u 1 (nd h).l (nd u).up) (nd h).l ((T (nd h).l).map fun k => (nd k).it) ∧
    (upd (turn3 nd h u 1 (nd h).l (nd u).up) u ((turn3 nd h u 1 (nd h).l (nd u).up u).setSum su au) h).l = u ∧ (upd (turn3 nd h u 1 (nd h).l (nd u).up) u ((turn3 nd h u 1 (nd h).l (nd u).up u).setSum su au) h).r = (nd h).r ∧ (upd (turn3 nd h u 1 (nd h).l (nd u).up) u ((turn3 nd h u 1 (nd h).l (nd u).up u).setSum su au) h).it = (nd h).it ∧
    Sub n free (upd (turn3 nd h u 1 (nd h).l (nd u).up) u ((turn3 nd h u 1 (nd h).l (nd u).up u).setSum su au)) u (((T (nd u).l).map fun k => (nd k).it) ++ (nd u).it :: ((T (nd h).l).map fun k => (nd k).it)) ∧
    Sub n free (upd (turn3 nd h u 1 (nd h).l (nd u).up) u ((turn3 nd h u 1 (nd h).l (nd u).up u).setSum su au)) (nd h).r ((T (nd h).r).map fun k => (nd k).it) := by
  have NE := H.near hl hu hu0
  have h0 := H.ne0 hl
  have th := turn3L NE h0 hu0 h hl
  have tu := turn3L NE h0 hu0 u NE.lu
  simp only [if_true, if_neg NE.hu, if_neg (Ne.symm NE.hu)] at th tu
  refine ⟨?_, tu.1, tu.2.1, (turn3_rest ..).1, ?_, ?_, ?_, ?_, ?_, ?_, ?_⟩
  · rw [turn1_l, if_neg]; rintro ⟨e, _⟩; exact NE.o1 e.symm
  · exact H.subOf (fun e => (H.l u NE.lu e).1) _ (fun _ => (turn3_rest ..).2.1) (fun _ => (turn3_rest ..).2.2)
  · exact H.subOf (fun e => (H.l h hl e).1) _ (fun _ => (turn3_rest ..).2.1) (fun _ => (turn3_rest ..).2.2)
  · rw [upd_other _ _ NE.hu]; exact th.1
  · rw [upd_other _ _ NE.hu]; exact th.2.1
  · rw [upd_other _ _ NE.hu]; exact (turn3_rest ..).1
  · refine .inr ⟨NE.lu, ?_, ?_⟩
    · rw [upd_same]; show su = _; rw [e1]; simp; omega
    · rw [upd_same]; exact e2
  · refine H.subOf (fun e => (H.r h hl e).1) _ (fun _ => ?_) (fun _ => ?_)
    · rw [upd_other _ _ NE.r2]; exact (turn3_rest ..).2.1
    · rw [upd_other _ _ NE.r2]; exact (turn3_rest ..).2.2

theorem mids {T : Nat → List Nat} {nd : Nat → Nd} {a b c : List Nat} {x : Nat} (e : a = b ++ x :: c) : (a.map fun k => (nd k).it) = (b.map fun k => (nd k).it) ++ (nd x).it :: (c.map fun k => (nd k).it) := by rw [e]; simp

set_option maxRecDepth 100000 in
set_option maxHeartbeats 4000000 in
theorem turnR_any (w : World) (o : Nat → Nat) (L p room n : Nat) (free : List Nat) (pt : Nat → Nat) (nd : Nat → Nd) (T S : Nat → List Nat) (h u : Nat) (F : Fm w o L p room n free pt nd) (H : Tr (Live n free) n nd T S) (hl : Live n free h) (hu : (nd h).up = u) (hu0 : u ≠ 0) (hs : (nd u).l = h) :
    Calls Try.prog 57 #[.pointer (some ⟨p, 0, none⟩), .int .i64 h] w fun e w' => e = .returned (.tuple #[]) ∧ ∃ nd' T', Fm w' o L p room n free pt nd' ∧ TurnOut (Live n free) n nd T S h u nd' T' ∧ Step (NL L) w o w' o := by
  have NE := H.near hl hu hu0
  have h0 := H.ne0 hl
  have hn := F.le
  have lu := NE.lu
  obtain ⟨q1, q2, q3, q4, q5, q6, q7, q8, q9, q10, q11⟩ := H.lastR hl hu hu0 hs _ _ rfl rfl
  obtain ⟨T', HO⟩ := H.outR hl hu hu0 hs (su := _) (sh := (((T (nd h).l).map fun k => (nd k).it).length + 1 + (((T (nd h).r).map fun k => (nd k).it) ++ (nd u).it :: ((T (nd u).r).map fun k => (nd k).it)).length)) (au := _) (ah := (agg (((T (nd h).l).map fun k => (nd k).it) ++ (nd h).it :: (((T (nd h).r).map fun k => (nd k).it) ++ (nd u).it :: ((T (nd u).r).map fun k => (nd k).it))))) rfl rfl
    (by rw [H.len lu, hs, H.len hl]; simp; omega) (by rw [mids (T := T) (H.t u lu), hs, mids (T := T) (H.t h hl)]; simp)
  have mA := H.mayT (fun e => (H.l h hl e).1)
  have mM := H.mayT (fun e => (H.r h hl e).1)
  have mR := H.mayT (fun e => (H.r u lu e).1)
  have mUl := H.mayT (fun e => (H.l u lu e).1)
  have lA := H.lenT (fun e => (H.l h hl e).1)
  have lM := H.lenT (fun e => (H.r h hl e).1)
  have lR := H.lenT (fun e => (H.r u lu e).1)
  have lUl := H.lenT (fun e => (H.l u lu e).1)
  have lU := H.lenN lu
  have lenu := H.len lu
  have lenh := H.len hl
  rw [hs] at lenu
  have mh := H.may h hl
  have mu := H.may u lu
  have hm : (nd h).r = 0 ∨ Live n free (nd h).r := by
    by_cases e : (nd h).r = 0
    · exact .inl e
    · exact .inr (H.r h hl e).1
  have hc1 := nodeIn w o L p room n free pt nd h F hl
  have hc2 := nodeIn w o L p room n free pt nd u F lu
  have hc3 := sideOf_any w o L p room n free pt nd h u F lu
  rw [if_pos hs] at hc3
  obtain ⟨_, c3, c4, c5, _, hf⟩ := (F.node hl).cells12
  obtain ⟨_, d3, d4, d5, _, hd⟩ := (F.node lu).cells12
  rw [hu] at c3
  have mmid : ∀ x ∈ (((T (nd h).r).map fun k => (nd k).it) ++ (nd u).it :: ((T (nd u).r).map fun k => (nd k).it)), x.may := by
    intro x hx
    rcases List.mem_append.1 hx with hx | hx
    · exact mM x hx
    · rcases List.mem_cons.1 hx with rfl | hx
      · exact mu
      · exact mR x hx
  have R4 : Hid (∀ wx, Fm wx o L p room n free pt (turn3 nd h u 0 (nd h).r (nd u).up) → Calls Try.prog 43 #[.pointer (some ⟨p, 0, none⟩), .int .i64 u] wx fun e w' => e = .returned (.tuple #[]) ∧ Fm w' o L p room n free pt (upd (turn3 nd h u 0 (nd h).r (nd u).up) u (((turn3 nd h u 0 (nd h).r (nd u).up) u).setSum (((T (nd h).r).map fun k => (nd k).it).length + 1 + ((T (nd u).r).map fun k => (nd k).it).length) (agg (((T (nd h).r).map fun k => (nd k).it) ++ (nd u).it :: ((T (nd u).r).map fun k => (nd k).it))))) ∧ Step (NL L) wx o w' o) := fun wx Fx => by
    have := reckon_any wx o L p room n free pt (turn3 nd h u 0 (nd h).r (nd u).up) u ((T (nd h).r).map fun k => (nd k).it) ((T (nd u).r).map fun k => (nd k).it) Fx lu (by rw [q2]; exact q5) (by rw [q3]; exact q6) mM mR (by rw [q4]; exact mu) (by simp; omega) (by simp; omega)
    rw [q4] at this
    exact this
  have R5 : Hid (∀ wx, Fm wx o L p room n free pt (upd (turn3 nd h u 0 (nd h).r (nd u).up) u (((turn3 nd h u 0 (nd h).r (nd u).up) u).setSum (((T (nd h).r).map fun k => (nd k).it).length + 1 + ((T (nd u).r).map fun k => (nd k).it).length) (agg (((T (nd h).r).map fun k => (nd k).it) ++ (nd u).it :: ((T (nd u).r).map fun k => (nd k).it))))) → Calls Try.prog 43 #[.pointer (some ⟨p, 0, none⟩), .int .i64 h] wx fun e w' => e = .returned (.tuple #[]) ∧ (∃ nd' T', Fm w' o L p room n free pt nd' ∧ TurnOut (Live n free) n nd T S h u nd' T') ∧ Step (NL L) wx o w' o) := fun wx Fx => by
    have := reckon_any wx o L p room n free pt (upd (turn3 nd h u 0 (nd h).r (nd u).up) u (((turn3 nd h u 0 (nd h).r (nd u).up) u).setSum (((T (nd h).r).map fun k => (nd k).it).length + 1 + ((T (nd u).r).map fun k => (nd k).it).length) (agg (((T (nd h).r).map fun k => (nd k).it) ++ (nd u).it :: ((T (nd u).r).map fun k => (nd k).it))))) h ((T (nd h).l).map fun k => (nd k).it) (((T (nd h).r).map fun k => (nd k).it) ++ (nd u).it :: ((T (nd u).r).map fun k => (nd k).it)) Fx hl (by rw [q7]; exact q10) (by rw [q8]; exact q11) mA mmid (by rw [q9]; exact mh) (by simp; omega) (by simp; omega)
    rw [q9] at this
    refine this.mono ?_
    rintro e w' ⟨rfl, Fw, Sw⟩
    exact ⟨rfl, ⟨_, T', Fw, HO⟩, Sw⟩
  have R2 : Hid (∀ wx, Fm wx o L p room n free pt (turn1 nd h u (nd u).up) → Calls Try.prog 42 #[.pointer (some ⟨p, 0, none⟩), .int .i64 u, .int .i64 0, .int .i64 (nd h).r] wx fun e w' => e = .returned (.tuple #[]) ∧ Fm w' o L p room n free pt (hangN (turn1 nd h u (nd u).up) u 0 (nd h).r) ∧ Step (NL L) wx o w' o) := fun wx Fx => hang_any wx o L p room n free pt _ u 0 (nd h).r Fx lu (by omega) hm
  have R3 : Hid (∀ wx, Fm wx o L p room n free pt (hangN (turn1 nd h u (nd u).up) u 0 (nd h).r) → Calls Try.prog 42 #[.pointer (some ⟨p, 0, none⟩), .int .i64 h, .int .i64 1, .int .i64 u] wx fun e w' => e = .returned (.tuple #[]) ∧ Fm w' o L p room n free pt (turn3 nd h u 0 (nd h).r (nd u).up) ∧ Step (NL L) wx o w' o) := fun wx Fx => hang_any wx o L p room n free pt _ h 1 u Fx hl (by omega) (.inr lu)

  by_cases o0 : (nd u).up = 0
  · obtain ⟨F1, S1⟩ := F.set hl 3 (.int .i64 0) ((nd h).setUp 0) (by simp [Nd.cells, Nd.setUp])
    have e1 : upd nd h ((nd h).setUp 0) = turn1 nd h u (nd u).up := by unfold turn1; rw [if_pos o0]
    rw [e1] at F1
    rw [o0] at d3
    obtain ⟨_, g3, g4, g5, _, hg⟩ := (F1.node hl).cells12
    rw [q1] at g5
    clear e1 q1 q2 q3 q4 q5 q6 q7 q8 q9 q10 q11 HO mA mM mR mUl lA lM lR lUl lU lenu lenh mh mu mmid H NE F
    go_enter Try.func57, Try.ntmps57
    go_wp2_with fail
    refine hc1.mono ?_
    rintro e w1 ⟨rfl, rfl⟩
    go_wp2_with fail
    refine hc2.mono ?_
    rintro e w2 ⟨rfl, rfl⟩
    go_wp2_with fail
    refine hc3.mono ?_
    rintro e w3 ⟨rfl, rfl⟩
    clear hc1 hc2 hc3
    go_wp2_with fail
    refine (R2.out _ F1).mono ?_
    rintro e w4 ⟨rfl, F4, S4⟩
    go_wp2_with fail
    refine (R3.out _ F4).mono ?_
    rintro e w5 ⟨rfl, F5, S5⟩
    clear F4
    go_wp2_with fail
    refine (R4.out _ F5).mono ?_
    rintro e w6 ⟨rfl, F6, S6⟩
    clear F5
    go_wp2_with fail
    refine (R5.out _ F6).mono ?_
    rintro e w7 ⟨rfl, ⟨ndz, Tz, F7, HO⟩, S7⟩
    go_wp2
    go_end0
    exact ⟨rfl, ndz, Tz, F7, HO, (((S1.trans S4).trans S5).trans S6).trans S7⟩

  · have lo := (NE.both o0).1
    have hc4 := sideOf_any w o L p room n free pt nd u (nd u).up F lo
    have hs3 : (if (nd (nd u).up).l = u then (0 : Int) else 1) = ((if (nd (nd u).up).l = u then 0 else 1 : Nat) : Int) := by split <;> rfl
    rw [hs3] at hc4
    have hc5 := hang_any w o L p room n free pt nd (nd u).up (if (nd (nd u).up).l = u then 0 else 1) h F lo (by split <;> omega) (.inr hl)
    have e1 : hangN nd (nd u).up (if (nd (nd u).up).l = u then 0 else 1) h = turn1 nd h u (nd u).up := by unfold turn1; rw [if_neg o0]
    rw [e1] at hc5
    have o1 : (((nd u).up : Int) == 0) = false := by simp only [beq_eq_false_iff_ne, ne_eq]; omega
    obtain ⟨s3, hs3'⟩ : ∃ s3 : Nat, s3 = (if (nd (nd u).up).l = u then 0 else 1) := ⟨_, rfl⟩
    rw [← hs3'] at hc4 hc5
    have Q1 : Hid ((turn1 nd h u (nd u).up h).r = (nd h).r) := q1
    clear hs3' hs3 e1 q1 q2 q3 q4 q5 q6 q7 q8 q9 q10 q11 HO mA mM mR mUl lA lM lR lUl lU lenu lenh mh mu mmid H NE F
    go_enter Try.func57, Try.ntmps57
    go_wp2_with fail
    refine hc1.mono ?_
    rintro e w1 ⟨rfl, rfl⟩
    go_wp2_with fail
    refine hc2.mono ?_
    rintro e w2 ⟨rfl, rfl⟩
    go_wp2_with fail
    refine hc3.mono ?_
    rintro e w3 ⟨rfl, rfl⟩
    go_wp2_with fail
    refine hc4.mono ?_
    rintro e wq ⟨rfl, rfl⟩
    go_wp2_with fail
    refine hc5.mono ?_
    rintro e wx ⟨rfl, F1, S1⟩
    obtain ⟨_, g3, g4, g5, _, hg⟩ := (F1.node hl).cells12
    rw [Q1.out] at g5
    clear hc1 hc2 hc3 hc4 hc5 c3 c4 c5 d3 d4 d5 hf hd
    go_wp2_with fail
    refine (R2.out _ F1).mono ?_
    rintro e w4 ⟨rfl, F4, S4⟩
    go_wp2_with fail
    refine (R3.out _ F4).mono ?_
    rintro e w5 ⟨rfl, F5, S5⟩
    clear F4
    go_wp2_with fail
    refine (R4.out _ F5).mono ?_
    rintro e w6 ⟨rfl, F6, S6⟩
    clear F5
    go_wp2_with fail
    refine (R5.out _ F6).mono ?_
    rintro e w7 ⟨rfl, ⟨ndz, Tz, F7, HO⟩, S7⟩
    go_wp2
    go_end0
    exact ⟨rfl, ndz, Tz, F7, HO, (((S1.trans S4).trans S5).trans S6).trans S7⟩

set_option maxRecDepth 100000 in
set_option maxHeartbeats 4000000 in
theorem turnL_any (w : World) (o : Nat → Nat) (L p room n : Nat) (free : List Nat) (pt : Nat → Nat) (nd : Nat → Nd) (T S : Nat → List Nat) (h u : Nat) (F : Fm w o L p room n free pt nd) (H : Tr (Live n free) n nd T S) (hl : Live n free h) (hu : (nd h).up = u) (hu0 : u ≠ 0) (hs : (nd u).l ≠ h) :
    Calls Try.prog 57 #[.pointer (some ⟨p, 0, none⟩), .int .i64 h] w fun e w' => e = .returned (.tuple #[]) ∧ ∃ nd' T', Fm w' o L p room n free pt nd' ∧ TurnOut (Live n free) n nd T S h u nd' T' ∧ Step (NL L) w o w' o := by
  have NE := H.near hl hu hu0
  have h0 := H.ne0 hl
  have hn := F.le
  have lu := NE.lu
  have hs2 : (nd u).r = h := by
    obtain ⟨_, _, hc⟩ := H.u h hl (by rw [hu]; exact hu0)
    rw [hu] at hc
    exact hc.resolve_left hs
  obtain ⟨q1, q2, q3, q4, q5, q6, q7, q8, q9, q10, q11⟩ := H.lastL hl hu hu0 hs _ _ rfl rfl
  obtain ⟨T', HO⟩ := H.outL hl hu hu0 hs (su := _) (sh := ((((T (nd u).l).map fun k => (nd k).it) ++ (nd u).it :: ((T (nd h).l).map fun k => (nd k).it)).length + 1 + ((T (nd h).r).map fun k => (nd k).it).length)) (au := _) (ah := (agg ((((T (nd u).l).map fun k => (nd k).it) ++ (nd u).it :: ((T (nd h).l).map fun k => (nd k).it)) ++ (nd h).it :: ((T (nd h).r).map fun k => (nd k).it)))) rfl rfl
    (by rw [H.len lu, hs2, H.len hl]; simp; omega) (by rw [mids (T := T) (H.t u lu), hs2, mids (T := T) (H.t h hl)]; simp)
  have mA := H.mayT (fun e => (H.l h hl e).1)
  have mM := H.mayT (fun e => (H.r h hl e).1)
  have mR := H.mayT (fun e => (H.r u lu e).1)
  have mUl := H.mayT (fun e => (H.l u lu e).1)
  have lA := H.lenT (fun e => (H.l h hl e).1)
  have lM := H.lenT (fun e => (H.r h hl e).1)
  have lR := H.lenT (fun e => (H.r u lu e).1)
  have lUl := H.lenT (fun e => (H.l u lu e).1)
  have lU := H.lenN lu
  have lenu := H.len lu
  have lenh := H.len hl
  rw [hs2] at lenu
  have mh := H.may h hl
  have mu := H.may u lu
  have hm : (nd h).l = 0 ∨ Live n free (nd h).l := by
    by_cases e : (nd h).l = 0
    · exact .inl e
    · exact .inr (H.l h hl e).1
  have hc1 := nodeIn w o L p room n free pt nd h F hl
  have hc2 := nodeIn w o L p room n free pt nd u F lu
  have hc3 := sideOf_any w o L p room n free pt nd h u F lu
  rw [if_neg hs] at hc3
  obtain ⟨_, c3, c4, c5, _, hf⟩ := (F.node hl).cells12
  obtain ⟨_, d3, d4, d5, _, hd⟩ := (F.node lu).cells12
  rw [hu] at c3
  have mmid : ∀ x ∈ (((T (nd u).l).map fun k => (nd k).it) ++ (nd u).it :: ((T (nd h).l).map fun k => (nd k).it)), x.may := by
    intro x hx
    rcases List.mem_append.1 hx with hx | hx
    · exact mUl x hx
    · rcases List.mem_cons.1 hx with rfl | hx
      · exact mu
      · exact mA x hx
  have R4 : Hid (∀ wx, Fm wx o L p room n free pt (turn3 nd h u 1 (nd h).l (nd u).up) → Calls Try.prog 43 #[.pointer (some ⟨p, 0, none⟩), .int .i64 u] wx fun e w' => e = .returned (.tuple #[]) ∧ Fm w' o L p room n free pt (upd (turn3 nd h u 1 (nd h).l (nd u).up) u (((turn3 nd h u 1 (nd h).l (nd u).up) u).setSum (((T (nd u).l).map fun k => (nd k).it).length + 1 + ((T (nd h).l).map fun k => (nd k).it).length) (agg (((T (nd u).l).map fun k => (nd k).it) ++ (nd u).it :: ((T (nd h).l).map fun k => (nd k).it))))) ∧ Step (NL L) wx o w' o) := fun wx Fx => by
    have := reckon_any wx o L p room n free pt (turn3 nd h u 1 (nd h).l (nd u).up) u ((T (nd u).l).map fun k => (nd k).it) ((T (nd h).l).map fun k => (nd k).it) Fx lu (by rw [q2]; exact q5) (by rw [q3]; exact q6) mUl mA (by rw [q4]; exact mu) (by simp; omega) (by simp; omega)
    rw [q4] at this
    exact this
  have R5 : Hid (∀ wx, Fm wx o L p room n free pt (upd (turn3 nd h u 1 (nd h).l (nd u).up) u (((turn3 nd h u 1 (nd h).l (nd u).up) u).setSum (((T (nd u).l).map fun k => (nd k).it).length + 1 + ((T (nd h).l).map fun k => (nd k).it).length) (agg (((T (nd u).l).map fun k => (nd k).it) ++ (nd u).it :: ((T (nd h).l).map fun k => (nd k).it))))) → Calls Try.prog 43 #[.pointer (some ⟨p, 0, none⟩), .int .i64 h] wx fun e w' => e = .returned (.tuple #[]) ∧ (∃ nd' T', Fm w' o L p room n free pt nd' ∧ TurnOut (Live n free) n nd T S h u nd' T') ∧ Step (NL L) wx o w' o) := fun wx Fx => by
    have := reckon_any wx o L p room n free pt (upd (turn3 nd h u 1 (nd h).l (nd u).up) u (((turn3 nd h u 1 (nd h).l (nd u).up) u).setSum (((T (nd u).l).map fun k => (nd k).it).length + 1 + ((T (nd h).l).map fun k => (nd k).it).length) (agg (((T (nd u).l).map fun k => (nd k).it) ++ (nd u).it :: ((T (nd h).l).map fun k => (nd k).it))))) h (((T (nd u).l).map fun k => (nd k).it) ++ (nd u).it :: ((T (nd h).l).map fun k => (nd k).it)) ((T (nd h).r).map fun k => (nd k).it) Fx hl (by rw [q7]; exact q10) (by rw [q8]; exact q11) mmid mM (by rw [q9]; exact mh) (by simp; omega) (by simp; omega)
    rw [q9] at this
    refine this.mono ?_
    rintro e w' ⟨rfl, Fw, Sw⟩
    exact ⟨rfl, ⟨_, T', Fw, HO⟩, Sw⟩
  have R2 : Hid (∀ wx, Fm wx o L p room n free pt (turn1 nd h u (nd u).up) → Calls Try.prog 42 #[.pointer (some ⟨p, 0, none⟩), .int .i64 u, .int .i64 1, .int .i64 (nd h).l] wx fun e w' => e = .returned (.tuple #[]) ∧ Fm w' o L p room n free pt (hangN (turn1 nd h u (nd u).up) u 1 (nd h).l) ∧ Step (NL L) wx o w' o) := fun wx Fx => hang_any wx o L p room n free pt _ u 1 (nd h).l Fx lu (by omega) hm
  have R3 : Hid (∀ wx, Fm wx o L p room n free pt (hangN (turn1 nd h u (nd u).up) u 1 (nd h).l) → Calls Try.prog 42 #[.pointer (some ⟨p, 0, none⟩), .int .i64 h, .int .i64 0, .int .i64 u] wx fun e w' => e = .returned (.tuple #[]) ∧ Fm w' o L p room n free pt (turn3 nd h u 1 (nd h).l (nd u).up) ∧ Step (NL L) wx o w' o) := fun wx Fx => hang_any wx o L p room n free pt _ h 0 u Fx hl (by omega) (.inr lu)

  by_cases o0 : (nd u).up = 0
  · obtain ⟨F1, S1⟩ := F.set hl 3 (.int .i64 0) ((nd h).setUp 0) (by simp [Nd.cells, Nd.setUp])
    have e1 : upd nd h ((nd h).setUp 0) = turn1 nd h u (nd u).up := by unfold turn1; rw [if_pos o0]
    rw [e1] at F1
    rw [o0] at d3
    obtain ⟨_, g3, g4, g5, _, hg⟩ := (F1.node hl).cells12
    rw [q1] at g4
    clear e1 q1 q2 q3 q4 q5 q6 q7 q8 q9 q10 q11 HO mA mM mR mUl lA lM lR lUl lU lenu lenh mh mu mmid H NE F
    go_enter Try.func57, Try.ntmps57
    go_wp2_with fail
    refine hc1.mono ?_
    rintro e w1 ⟨rfl, rfl⟩
    go_wp2_with fail
    refine hc2.mono ?_
    rintro e w2 ⟨rfl, rfl⟩
    go_wp2_with fail
    refine hc3.mono ?_
    rintro e w3 ⟨rfl, rfl⟩
    clear hc1 hc2 hc3
    go_wp2_with fail
    refine (R2.out _ F1).mono ?_
    rintro e w4 ⟨rfl, F4, S4⟩
    go_wp2_with fail
    refine (R3.out _ F4).mono ?_
    rintro e w5 ⟨rfl, F5, S5⟩
    clear F4
    go_wp2_with fail
    refine (R4.out _ F5).mono ?_
    rintro e w6 ⟨rfl, F6, S6⟩
    clear F5
    go_wp2_with fail
    refine (R5.out _ F6).mono ?_
    rintro e w7 ⟨rfl, ⟨ndz, Tz, F7, HO⟩, S7⟩
    go_wp2
    go_end0
    exact ⟨rfl, ndz, Tz, F7, HO, (((S1.trans S4).trans S5).trans S6).trans S7⟩

  · have lo := (NE.both o0).1
    have hc4 := sideOf_any w o L p room n free pt nd u (nd u).up F lo
    have hs3 : (if (nd (nd u).up).l = u then (0 : Int) else 1) = ((if (nd (nd u).up).l = u then 0 else 1 : Nat) : Int) := by split <;> rfl
    rw [hs3] at hc4
    have hc5 := hang_any w o L p room n free pt nd (nd u).up (if (nd (nd u).up).l = u then 0 else 1) h F lo (by split <;> omega) (.inr hl)
    have e1 : hangN nd (nd u).up (if (nd (nd u).up).l = u then 0 else 1) h = turn1 nd h u (nd u).up := by unfold turn1; rw [if_neg o0]
    rw [e1] at hc5
    have o1 : (((nd u).up : Int) == 0) = false := by simp only [beq_eq_false_iff_ne, ne_eq]; omega
    obtain ⟨s3, hs3'⟩ : ∃ s3 : Nat, s3 = (if (nd (nd u).up).l = u then 0 else 1) := ⟨_, rfl⟩
    rw [← hs3'] at hc4 hc5
    have Q1 : Hid ((turn1 nd h u (nd u).up h).l = (nd h).l) := q1
    clear hs3' hs3 e1 q1 q2 q3 q4 q5 q6 q7 q8 q9 q10 q11 HO mA mM mR mUl lA lM lR lUl lU lenu lenh mh mu mmid H NE F
    go_enter Try.func57, Try.ntmps57
    go_wp2_with fail
    refine hc1.mono ?_
    rintro e w1 ⟨rfl, rfl⟩
    go_wp2_with fail
    refine hc2.mono ?_
    rintro e w2 ⟨rfl, rfl⟩
    go_wp2_with fail
    refine hc3.mono ?_
    rintro e w3 ⟨rfl, rfl⟩
    go_wp2_with fail
    refine hc4.mono ?_
    rintro e wq ⟨rfl, rfl⟩
    go_wp2_with fail
    refine hc5.mono ?_
    rintro e wx ⟨rfl, F1, S1⟩
    obtain ⟨_, g3, g4, g5, _, hg⟩ := (F1.node hl).cells12
    rw [Q1.out] at g4
    clear hc1 hc2 hc3 hc4 hc5 c3 c4 c5 d3 d4 d5 hf hd
    go_wp2_with fail
    refine (R2.out _ F1).mono ?_
    rintro e w4 ⟨rfl, F4, S4⟩
    go_wp2_with fail
    refine (R3.out _ F4).mono ?_
    rintro e w5 ⟨rfl, F5, S5⟩
    clear F4
    go_wp2_with fail
    refine (R4.out _ F5).mono ?_
    rintro e w6 ⟨rfl, F6, S6⟩
    clear F5
    go_wp2_with fail
    refine (R5.out _ F6).mono ?_
    rintro e w7 ⟨rfl, ⟨ndz, Tz, F7, HO⟩, S7⟩
    go_wp2
    go_end0
    exact ⟨rfl, ndz, Tz, F7, HO, (((S1.trans S4).trans S5).trans S6).trans S7⟩

theorem turn_any (w : World) (o : Nat → Nat) (L p room n : Nat) (free : List Nat) (pt : Nat → Nat) (nd : Nat → Nd) (T S : Nat → List Nat) (h u : Nat) (F : Fm w o L p room n free pt nd) (H : Tr (Live n free) n nd T S) (hl : Live n free h) (hu : (nd h).up = u) (hu0 : u ≠ 0) :
    Calls Try.prog 57 #[.pointer (some ⟨p, 0, none⟩), .int .i64 h] w fun e w' => e = .returned (.tuple #[]) ∧ ∃ nd' T', Fm w' o L p room n free pt nd' ∧ TurnOut (Live n free) n nd T S h u nd' T' ∧ Step (NL L) w o w' o := by
  by_cases hs : (nd u).l = h
  · exact turnR_any w o L p room n free pt nd T S h u F H hl hu hu0 hs
  · exact turnL_any w o L p room n free pt nd T S h u F H hl hu hu0 hs

end Go.Proofs.Ythdmajddmajjoaa
