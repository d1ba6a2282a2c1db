/- A new edge: it comes into the forest, or it does not. -/
import Derived.Test.YtffmlffhiimmdaaMr
namespace Go.Proofs.Ytffmlffhiimmdaa
open Go.ChangeShapes Go.WideShapes Go.ChangeAt Go.RowKit Go.Maps
set_option linter.unusedVariables false

theorem newB5 (w : World) (o : Nat → Nat) (ob : Obj) : Step (fun _ => False) w o (w.alloc ob) o := allocStep _ w o ob
theorem heavier_in (w : World) (o : Nat → Nat) (a1 a2 a3 a4 b1 b2 b3 b4 : Int) :
    Calls Try.prog 47 #[.agg #[.int .i64 a1, .int .i64 a2, .int .i64 a3, .int .i64 a4], .agg #[.int .i64 b1, .int .i64 b2, .int .i64 b3, .int .i64 b4]] w fun e w' => e = .returned (.bool (decide (b4 < a4 ∨ (a4 = b4 ∧ b1 < a1)))) ∧ Step (fun _ => False) w o w' o := by
  by_cases h1 : b4 < a4
  · rw [decide_eq_true (show b4 < a4 ∨ (a4 = b4 ∧ b1 < a1) from .inl h1)]
    go_enter Try.func47, Try.ntmps47
    go_wp2
    go_ret
    exact ⟨rfl, (newB5 _ _ _).trans (newB5 _ _ _)⟩
  · have d1 : decide (b4 < a4) = false := decide_eq_false h1
    by_cases h2 : a4 = b4
    · subst h2
      by_cases h3 : b1 < a1
      · rw [decide_eq_true (show a4 < a4 ∨ (a4 = a4 ∧ b1 < a1) from .inr ⟨rfl, h3⟩)]
        go_enter Try.func47, Try.ntmps47
        go_wp2
        go_ret
        exact ⟨rfl, (newB5 _ _ _).trans (newB5 _ _ _)⟩
      · have d3 : decide (b1 < a1) = false := decide_eq_false h3
        rw [decide_eq_false (show ¬ (a4 < a4 ∨ (a4 = a4 ∧ b1 < a1)) by omega)]
        go_enter Try.func47, Try.ntmps47
        go_wp2
        go_ret
        exact ⟨by first | rfl | exact ret_bool (by simp [d3]), (newB5 _ _ _).trans (newB5 _ _ _)⟩
    · have d2 : (a4 == b4) = false := by simp only [beq_eq_false_iff_ne, ne_eq]; exact h2
      rw [decide_eq_false (show ¬ (b4 < a4 ∨ (a4 = b4 ∧ b1 < a1)) by omega)]
      go_enter Try.func47, Try.ntmps47
      go_wp2
      go_ret
      exact ⟨by first | rfl | exact ret_bool (by simp [d1, h2]), (newB5 _ _ _).trans (newB5 _ _ _)⟩

set_option maxRecDepth 100000 in
theorem heavier_law7 (w : World) (o : Nat → Nat) (a1 a2 a3 a4 b1 b2 b3 b4 : Int) :
    Calls Try.prog 23 #[.agg #[.int .i64 a1, .int .i64 a2, .int .i64 a3, .int .i64 a4], .agg #[.int .i64 b1, .int .i64 b2, .int .i64 b3, .int .i64 b4]] w fun e w' => e = .returned (.bool (decide (b4 < a4 ∨ (a4 = b4 ∧ b1 < a1)))) ∧ Step (fun _ => False) w o w' o := by
  by_cases h1 : b4 < a4
  · rw [decide_eq_true (show b4 < a4 ∨ (a4 = b4 ∧ b1 < a1) from .inl h1)]
    go_enter Try.func23, Try.ntmps23
    go_wp2
    go_ret
    exact ⟨rfl, (newB5 _ _ _).trans (newB5 _ _ _)⟩
  · have d1 : decide (b4 < a4) = false := decide_eq_false h1
    by_cases h2 : a4 = b4
    · subst h2
      by_cases h3 : b1 < a1
      · rw [decide_eq_true (show a4 < a4 ∨ (a4 = a4 ∧ b1 < a1) from .inr ⟨rfl, h3⟩)]
        go_enter Try.func23, Try.ntmps23
        go_wp2
        go_ret
        exact ⟨rfl, (newB5 _ _ _).trans (newB5 _ _ _)⟩
      · have d3 : decide (b1 < a1) = false := decide_eq_false h3
        rw [decide_eq_false (show ¬ (a4 < a4 ∨ (a4 = a4 ∧ b1 < a1)) by omega)]
        go_enter Try.func23, Try.ntmps23
        go_wp2
        go_ret
        exact ⟨by first | rfl | exact ret_bool (by simp [d3]), (newB5 _ _ _).trans (newB5 _ _ _)⟩
    · have d2 : (a4 == b4) = false := by simp only [beq_eq_false_iff_ne, ne_eq]; exact h2
      rw [decide_eq_false (show ¬ (b4 < a4 ∨ (a4 = b4 ∧ b1 < a1)) by omega)]
      go_enter Try.func23, Try.ntmps23
      go_wp2
      go_ret
      exact ⟨by first | rfl | exact ret_bool (by simp [d1, h2]), (newB5 _ _ _).trans (newB5 _ _ _)⟩


/-- What a map says of edges and a forest of them. -/
def msF (D ed : Nat → Option Ed) : Nat → Option (Ed × Bool) := fun i => (D i).map fun x => (x, (ed i).isSome)
/-- A graph and its least spanning forest in memory. -/
def Mx (w : World) (o : Nat → Nat) (L p n : Nat) (D ed : Nat → Option Ed) (m c : Nat) : Prop :=
  (Mf D ed ∧ EdOk n D) ∧ ∃ R, Mr w o L p n (msF D ed) ed R m c
theorem Mx.step {I : Nat → Prop} {w w' : World} {o o' : Nat → Nat} {L p n : Nat} {D ed : Nat → Option Ed} {m c : Nat} (h : Mx w o L p n D ed m c) (s : Step I w o w' o') (hi : ∀ k, ML L k → ¬ I k) : Mx w' o' L p n D ed m c := by
  obtain ⟨h1, R, h2⟩ := h
  exact ⟨h1, R, h2.step s hi⟩
theorem Mr.tx {w : World} {o : Nat → Nat} {L p n : Nat} {f : Nat → Option (Ed × Bool)} {ed : Nat → Option Ed} {R : Nat → List Nat} {m c : Nat} (h : Mr w o L p n f ed R m c) : Alt n ed R ∧ EdOk n ed ∧ Rt (liveN n ed) R ∧ 1 ≤ n ∧ n ≤ 64 := by
  obtain ⟨bm, q, _, _, T⟩ := h
  have := T.1
  obtain ⟨_, _, _, _, _, _, F⟩ := T
  exact ⟨this.2.2.2, this.2.2.1, F.rt, this.1, this.2.1⟩
theorem Mx.acy {w : World} {o : Nat → Nat} {L p n : Nat} {D ed : Nat → Option Ed} {m c : Nat} (h : Mx w o L p n D ed m c) : ∀ i x, ed i = some x → ¬ Cn (fun k => k ≠ i) ed x.u x.v := fun i x hx => by
  obtain ⟨_, R, h⟩ := h
  obtain ⟨h1, h2, h3, _⟩ := h.tx
  exact h1.acy h2 h3 hx
theorem msF_new (D ed : Nat → Option Ed) {i : Nat} (hi : D i = none) : msF D ed i = none := by unfold msF; rw [hi]; rfl
theorem msF_span (D ed : Nat → Option Ed) (i : Nat) (x : Ed) : upd (msF D ed) i (some (x, true)) = msF (upd D i (some x)) (upd ed i (some x)) := by
  funext k
  by_cases e : k = i
  · subst e; unfold msF; rw [upd_same, upd_same, upd_same]; rfl
  · unfold msF; rw [upd_other _ _ e, upd_other _ _ e, upd_other _ _ e]
theorem msF_over (D ed : Nat → Option Ed) {i : Nat} (x : Ed) (hi : ed i = none) : upd (msF D ed) i (some (x, false)) = msF (upd D i (some x)) ed := by
  funext k
  by_cases e : k = i
  · subst e; unfold msF; rw [upd_same, upd_same, hi]; rfl
  · unfold msF; rw [upd_other _ _ e, upd_other _ _ e]
theorem msF_cut (D ed : Nat → Option Ed) {t : Nat} {y : Ed} (ht : D t = some y) : upd (msF D ed) t (some (y, false)) = msF D (upd ed t none) := by
  funext k
  by_cases e : k = t
  · subst e; unfold msF; rw [upd_same, upd_same, ht]; rfl
  · unfold msF; rw [upd_other _ _ e, upd_other _ _ e]
theorem EdOk.upd {n : Nat} {D : Nat → Option Ed} (h : EdOk n D) {i : Nat} {x : Ed} (hi : i ≤ 1099511627776) (hu : x.u < n) (hv : x.v < n) (huv : x.u ≠ x.v) (hw : -1099511627776 ≤ x.w ∧ x.w ≤ 1099511627776) : EdOk n (Proofs.Ytffmlffhiimmdaa.upd D i (some x)) := fun k y hk => by
  by_cases e : k = i
  · subst e
    rw [upd_same] at hk
    injection hk with hk
    subst hk
    exact ⟨hi, hu, hv, huv, hw⟩
  · rw [upd_other _ _ e] at hk; exact h k y hk

end Go.Proofs.Ytffmlffhiimmdaa
