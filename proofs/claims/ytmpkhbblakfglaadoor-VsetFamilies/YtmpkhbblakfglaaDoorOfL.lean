/- The laws' own way to make a set of raw numbers. -/
import Derived.Test.YtmpkhbblakfglaaDoorLaw9
namespace Go.Proofs.YtmpkhbblakfglaaDoor
open Go.ChangeShapes Go.WideShapes Go.ChangeAt Go.RowKit Go.Maps
set_option linter.unusedVariables false

def z9 : Nat → Nat := fun _ => 0
/-- The numbers that the first list has behind k rounds: those of every third place. -/
def firstL (f : Nat → Int) : Nat → List Nat
  | 0 => []
  | k + 1 => if k % 3 = 0 then firstL f k ++ [pk (f k) 64] else firstL f k
theorem firstL_len (f : Nat → Int) : ∀ k, (firstL f k).length ≤ k
  | 0 => Nat.le_refl _
  | k + 1 => by have := firstL_len f k; unfold firstL; split <;> simp <;> omega
theorem firstL_mem (f : Nat → Int) (i : Nat) : ∀ k, i ∈ firstL f k ↔ ∃ j, j < k ∧ j % 3 = 0 ∧ pk (f j) 64 = i
  | 0 => by simp [firstL]
  | k + 1 => by
    unfold firstL
    split
    · rename_i h3
      rw [List.mem_append, firstL_mem f i k, List.mem_singleton]
      constructor
      · rintro (⟨j, h1, h2⟩ | h)
        · exact ⟨j, by omega, h2⟩
        · exact ⟨k, by omega, h3, h.symm⟩
      · rintro ⟨j, h1, h2, h4⟩
        by_cases e : j = k
        · subst e; exact .inr h4.symm
        · exact .inl ⟨j, by omega, h2, h4⟩
    · rename_i h3
      rw [firstL_mem f i k]
      constructor
      · rintro ⟨j, h1, h2⟩; exact ⟨j, by omega, h2⟩
      · rintro ⟨j, h1, h2, h4⟩
        by_cases e : j = k
        · subst e; exact absurd h2 h3
        · exact ⟨j, by omega, h2, h4⟩
theorem firstL_lt (f : Nat → Int) (k : Nat) : ∀ x, x ∈ firstL f k → x < 64 := fun x hx => by
  obtain ⟨j, _, _, rfl⟩ := (firstL_mem f x k).1 hx
  exact pk_lt _ _ (by omega)
/-- The set behind k rounds of the second loop, from x. -/
def restS (f : Nat → Int) (x : Nat) : Nat → Nat
  | 0 => x
  | k + 1 => if k % 3 = 0 then restS f x k else restS f x k ||| bt (pk (f k) 64)
theorem restS_lt (f : Nat → Int) (x : Nat) (hx : x < top64) : ∀ k, restS f x k < top64
  | 0 => hx
  | k + 1 => by unfold restS; split; exact restS_lt f x hx k; exact or_lt (restS_lt f x hx k) (bt_lt (pk_lt _ _ (by omega)))
theorem restS_bit (f : Nat → Int) (x i : Nat) : ∀ k, (restS f x k).testBit i = true ↔ x.testBit i = true ∨ ∃ j, j < k ∧ ¬ j % 3 = 0 ∧ pk (f j) 64 = i
  | 0 => by simp [restS]
  | k + 1 => by
    unfold restS
    split
    · rename_i h3
      rw [restS_bit f x i k]
      constructor
      · rintro (h | ⟨j, h1, h2⟩)
        · exact .inl h
        · exact .inr ⟨j, by omega, h2⟩
      · rintro (h | ⟨j, h1, h2, h4⟩)
        · exact .inl h
        · exact .inr ⟨j, by have : j ≠ k := fun e => h2 (e ▸ h3); omega, h2, h4⟩
    · rename_i h3
      rw [Nat.testBit_or, Bool.or_eq_true, restS_bit f x i k, bt_bit, decide_eq_true_iff]
      constructor
      · rintro ((h | ⟨j, h1, h2⟩) | h)
        · exact .inl h
        · exact .inr ⟨j, by omega, h2⟩
        · exact .inr ⟨k, by omega, h3, h⟩
      · rintro (h | ⟨j, h1, h2, h4⟩)
        · exact .inl (.inl h)
        · by_cases e : j = k
          · subst e; exact .inr h4
          · exact .inl (.inr ⟨j, by omega, h2, h4⟩)
/-- What 'of' makes: the numbers that the first hundred speak of. -/
def OfL (f : Nat → Int) (n x : Nat) : Prop := x < top64 ∧ ∀ i, x.testBit i = true ↔ ∃ j, j < n ∧ j < 100 ∧ pk (f j) 64 = i

end Go.Proofs.YtmpkhbblakfglaaDoor
