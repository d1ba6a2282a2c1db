/- Bounds of tokens. No program. -/
import Derived.Test.YtgebhhfliphpdaaDoorLexJ
namespace Go.Proofs.YtgebhhfliphpdaaDoor
set_option linter.unusedVariables false

theorem tok_places (k : Nat) (t : List UInt8) (a p : Nat) (l : List UInt8) (ts : List Tk) (h : lexL k t a p l = .inr ts) (ha : a ≤ p) : ∀ x, x ∈ ts → x.a ≤ p + l.length := by
  induction l generalizing k t a p ts with
  | nil =>
    intro x hx
    rcases shut_inr h with ⟨rfl, h1⟩ | ⟨hk, y, us, hp, h1, h2⟩
    · injection h1 with h1
      subst h1
      simp at hx
      subst hx
      exact Nat.le_refl _
    · injection h1 with h1
      subst h1 h2
      simp at hx
      rcases hx with rfl | rfl
      · have := (ptok_inr hp).1
        simp
        omega
      · exact Nat.le_refl _
  | cons c r ih =>
    have e1 : p + (c :: r).length = p + 1 + r.length := by simp; omega
    rw [e1]
    cases ht : tks k t c.toNat
    · rw [lexL_no ht] at h
      rcases shut_inr h with ⟨rfl, h1⟩ | ⟨hk, y, us, hp, h1, h2⟩
      · exact ih _ _ _ _ _ h1 (by omega)
      · subst h2
        intro x hx
        rcases List.mem_cons.1 hx with rfl | hx
        · have := (ptok_inr hp).1
          omega
        · exact ih _ _ _ _ _ h1 (by omega) x hx
    · rw [lexL_yes ht] at h
      exact ih _ _ _ _ _ h (by omega)
theorem tok_count (k : Nat) (t : List UInt8) (a p : Nat) (l : List UInt8) (ts : List Tk) (h : lexL k t a p l = .inr ts) : ts.length ≤ l.length + 2 ∧ 0 < ts.length ∧ (k = 0 → ts.length ≤ l.length + 1) := by
  induction l generalizing k t a p ts with
  | nil =>
    rcases shut_inr h with ⟨rfl, h1⟩ | ⟨hk, y, us, hp, h1, h2⟩
    · injection h1 with h1
      subst h1
      simp
    · injection h1 with h1
      subst h1 h2
      simp [hk]
  | cons c r ih =>
    simp only [List.length_cons]
    cases ht : tks k t c.toNat
    · rw [lexL_no ht] at h
      rcases shut_inr h with ⟨rfl, h1⟩ | ⟨hk, y, us, hp, h1, h2⟩
      · have := ih _ _ _ _ _ h1
        exact ⟨by omega, by omega, fun _ => by omega⟩
      · subst h2
        have := ih _ _ _ _ _ h1
        simp only [List.length_cons]
        exact ⟨by omega, by omega, fun h => absurd h hk⟩
    · rw [lexL_yes ht] at h
      have := ih _ _ _ _ _ h
      exact ⟨by omega, by omega, fun h => by have := this.2.2 h; omega⟩
theorem scan_ok {l : List UInt8} {ts : List Tk} (h : scanA l = .inr ts) : l.length ≤ 2000 ∧ lexA l = .inr ts ∧ ts.length ≤ 2001 ∧ ts.length ≤ l.length + 1 ∧ 0 < ts.length ∧ (∀ x, x ∈ ts → x.a ≤ l.length) := by
  unfold scanA at h
  split at h
  · cases h
  · have h1 := tok_count _ _ _ _ _ _ h
    have h2 := tok_places _ _ _ _ _ _ h (Nat.le_refl _)
    have h3 := h1.2.2 rfl
    exact ⟨by omega, h, by omega, h3, h1.2.1, fun x hx => by have := h2 x hx; omega⟩
theorem scan_err_pos {l : List UInt8} {e q : Nat} (h : scanA l = .inl (e, q)) : e ≠ 0 := by
  by_cases he : e = 113
  · omega
  · have := (scan_err h he).2.2.2
    omega
end Go.Proofs.YtgebhhfliphpdaaDoor
