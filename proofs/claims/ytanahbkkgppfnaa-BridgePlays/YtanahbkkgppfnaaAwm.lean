/- The chapter's first example, by mathematics. No program. -/
import Derived.Test.YtanahbkkgppfnaaOrc
namespace Go.Proofs.Ytanahbkkgppfnaa
set_option linter.unusedVariables false

/-- Rising lists with the same members are the same. -/
theorem inc_ext : ∀ (a b : List Nat), a.Pairwise (· < ·) → b.Pairwise (· < ·) → (∀ i, i ∈ a ↔ i ∈ b) → a = b
  | [], [], _, _, _ => rfl
  | [], y :: b, _, _, h => absurd ((h y).2 (by simp)) (by simp)
  | x :: a, [], _, _, h => absurd ((h x).1 (by simp)) (by simp)
  | x :: a, y :: b, ha, hb, h => by
    rw [List.pairwise_cons] at ha hb
    have h1 := (h x).1 (by simp)
    have h2 := (h y).2 (by simp)
    have hxy : x = y := by
      rcases List.mem_cons.1 h1 with q | q
      · exact q
      · rcases List.mem_cons.1 h2 with q2 | q2
        · exact q2.symm
        · have := ha.1 y q2; have := hb.1 x q; omega
    subst hxy
    rw [inc_ext a b ha.2 hb.2 (fun i => ?_)]
    constructor
    · intro hi
      have := ha.1 i hi
      rcases List.mem_cons.1 ((h i).1 (List.mem_cons_of_mem _ hi)) with q | q
      · omega
      · exact q
    · intro hi
      have := hb.1 i hi
      rcases List.mem_cons.1 ((h i).2 (List.mem_cons_of_mem _ hi)) with q | q
      · omega
      · exact q
def es0 : List EdT := [⟨1, 0, 1, 0⟩, ⟨2, 1, 2, 0⟩, ⟨3, 2, 0, 0⟩, ⟨4, 2, 3, 0⟩, ⟨5, 3, 4, 0⟩]
theorem ends0 : ends es0 = [(0, 1), (1, 2), (2, 0), (2, 3), (3, 4)] := rfl
theorem ok0 : OkE 6 es0 := by
  intro k hk
  have hk5 : k < 5 := hk
  match k, hk5 with
  | 0, _ => exact ⟨show RightE 6 ⟨1, 0, 1, 0⟩ from ⟨⟨by decide, by decide⟩, ⟨by decide, by decide⟩, by decide, ⟨by decide, by decide⟩, ⟨by decide, by decide⟩⟩, by simp [es0]⟩
  | 1, _ => exact ⟨show RightE 6 ⟨2, 1, 2, 0⟩ from ⟨⟨by decide, by decide⟩, ⟨by decide, by decide⟩, by decide, ⟨by decide, by decide⟩, ⟨by decide, by decide⟩⟩, by simp [es0]⟩
  | 2, _ => exact ⟨show RightE 6 ⟨3, 2, 0, 0⟩ from ⟨⟨by decide, by decide⟩, ⟨by decide, by decide⟩, by decide, ⟨by decide, by decide⟩, ⟨by decide, by decide⟩⟩, by simp [es0]⟩
  | 3, _ => exact ⟨show RightE 6 ⟨4, 2, 3, 0⟩ from ⟨⟨by decide, by decide⟩, ⟨by decide, by decide⟩, by decide, ⟨by decide, by decide⟩, ⟨by decide, by decide⟩⟩, by simp [es0]⟩
  | 4, _ => exact ⟨show RightE 6 ⟨5, 3, 4, 0⟩ from ⟨⟨by decide, by decide⟩, ⟨by decide, by decide⟩, by decide, ⟨by decide, by decide⟩, ⟨by decide, by decide⟩⟩, by simp [es0]⟩
theorem close5 {P : Nat → Prop} {B : Nat → Prop} (h0 : P 0 → (B 0 ↔ B 1)) (h1 : P 1 → (B 1 ↔ B 2)) (h2 : P 2 → (B 2 ↔ B 0)) (h3 : P 3 → (B 2 ↔ B 3)) (h4 : P 4 → (B 3 ↔ B 4)) : ∀ i x, (ends es0)[i]? = some x → P i → (B x.1 ↔ B x.2) := by
  intro i x hx hP
  rw [ends0] at hx
  match i, hx, hP with
  | 0, hx, hP => simp at hx; subst hx; exact h0 hP
  | 1, hx, hP => simp at hx; subst hx; exact h1 hP
  | 2, hx, hP => simp at hx; subst hx; exact h2 hP
  | 3, hx, hP => simp at hx; subst hx; exact h3 hP
  | 4, hx, hP => simp at hx; subst hx; exact h4 hP
  | i + 5, hx, _ => simp at hx
theorem i00 : Inc (ends es0) 0 0 1 := .inl rfl
theorem i01 : Inc (ends es0) 1 1 2 := .inl rfl
theorem i02 : Inc (ends es0) 2 2 0 := .inl rfl
theorem f00 : Firm (ends es0) 0 := ⟨0, 1, i00, (Inc.jn i02.symm (by decide)).trans (Inc.jn i01.symm (by decide))⟩
theorem f01 : Firm (ends es0) 1 := ⟨1, 2, i01, (Inc.jn i00.symm (by decide)).trans (Inc.jn i02.symm (by decide))⟩
theorem f02 : Firm (ends es0) 2 := ⟨2, 0, i02, (Inc.jn i01.symm (by decide)).trans (Inc.jn i00.symm (by decide))⟩
theorem f03 : ¬ Firm (ends es0) 3 := fun h => by
  have := (h.at (x := 2) (y := 3) (.inl rfl)) (fun z => z ≤ 2) (by decide) (close5 (P := fun i => i ≠ 3) (B := fun z => z ≤ 2) (fun _ => by decide) (fun _ => by decide) (fun _ => by decide) (fun h => absurd rfl h) (fun _ => by decide))
  exact absurd this (by decide)
theorem f04 : ¬ Firm (ends es0) 4 := fun h => by
  have := (h.at (x := 3) (y := 4) (.inl rfl)) (fun z => z ≤ 3) (by decide) (close5 (P := fun i => i ≠ 4) (B := fun z => z ≤ 3) (fun _ => by decide) (fun _ => by decide) (fun _ => by decide) (fun _ => by decide) (fun h => absurd rfl h))
  exact absurd this (by decide)
theorem ans0 {B : List Nat} {bl : Nat → Nat} (h : Ans 6 es0 B bl) : B = [4, 5] ∧ bl 1 = 0 ∧ cntB bl 6 = 4 := by
  obtain ⟨h1, h2, h3, h4⟩ := h
  have b0 : bl 0 = 0 := by have := (h3 0 (by decide)).1; omega
  have b1 : bl 1 = 0 := by rw [← b0]; exact (h4 0 1 (by decide) (by decide) (Inc.jn i00 f00)).symm
  have b2 : bl 2 = 0 := by rw [← b0]; exact (h4 0 2 (by decide) (by decide) (Inc.jn i02.symm f02)).symm
  have alone : ∀ x, 3 ≤ x → x < 6 → bl x = x := fun x hx hx6 => by
    have := (h3 x hx6).2.symm (fun z => z = x) rfl (close5 (P := Firm (ends es0)) (B := fun z => z = x) (fun _ => by omega) (fun _ => by omega) (fun _ => by omega) (fun h => absurd h f03) (fun h => absurd h f04))
    exact this
  refine ⟨?_, b1, ?_⟩
  · refine inc_ext B [4, 5] h1 (by decide) fun i => ?_
    rw [h2 i]
    constructor
    · rintro ⟨e, he, hi, hf⟩
      have he5 : e < 5 := he
      match e, he5, hi, hf with
      | 0, _, _, hf => exact absurd f00 hf
      | 1, _, _, hf => exact absurd f01 hf
      | 2, _, _, hf => exact absurd f02 hf
      | 3, _, hi, _ => rw [← hi]; decide
      | 4, _, hi, _ => rw [← hi]; decide
    · intro hi
      simp only [List.mem_cons, List.not_mem_nil, or_false] at hi
      rcases hi with rfl | rfl
      · exact ⟨3, by decide, by decide, f03⟩
      · exact ⟨4, by decide, by decide, f04⟩
  · simp only [cntB, sumN, b0, b1, b2, alone 3 (by decide) (by decide), alone 4 (by decide) (by decide), alone 5 (by decide) (by decide)]
    decide
end Go.Proofs.Ytanahbkkgppfnaa
