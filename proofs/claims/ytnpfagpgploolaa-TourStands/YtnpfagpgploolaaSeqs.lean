/- Sequences that are laid anew: one list for all that stand in it. No program. -/
import Derived.Test.YtnpfagpgploolaaChg
namespace Go.Proofs.Ytnpfagpgploolaa
set_option linter.unusedVariables false

/-- All of X stand in the sequence X; the others as before. -/
def setS (S : Nat → List Nat) (X : List Nat) : Nat → List Nat := fun k => if k ∈ X then X else S k
theorem setS_in {S : Nat → List Nat} {X : List Nat} {k : Nat} (h : k ∈ X) : setS S X k = X := by simp [setS, h]
theorem setS_out {S : Nat → List Nat} {X : List Nat} {k : Nat} (h : k ∉ X) : setS S X k = S k := by simp [setS, h]
theorem setS_over {S : Nat → List Nat} {X Y : List Nat} (h : ∀ k ∈ X, k ∈ Y) : setS (setS S X) Y = setS S Y := by
  funext k
  by_cases hk : k ∈ Y
  · rw [setS_in hk, setS_in hk]
  · rw [setS_out hk, setS_out hk, setS_out (fun hx => hk (h k hx))]
theorem setS_swap {S : Nat → List Nat} {X Y : List Nat} (h : ∀ k ∈ X, k ∉ Y) : setS (setS S X) Y = setS (setS S Y) X := by
  funext k
  by_cases hx : k ∈ X
  · rw [setS_in hx, setS_out (h k hx), setS_in hx]
  · by_cases hy : k ∈ Y
    · rw [setS_in hy, setS_out hx, setS_in hy]
    · rw [setS_out hy, setS_out hx, setS_out hx, setS_out hy]
theorem setS_self {S : Nat → List Nat} {X : List Nat} (h : ∀ k ∈ X, S k = X) : setS S X = S := by
  funext k
  by_cases hk : k ∈ X
  · rw [setS_in hk, h k hk]
  · exact setS_out hk
theorem setS_nil {S : Nat → List Nat} : setS S [] = S := by funext k; simp [setS]
theorem splitS_eq (S : Nat → List Nat) (A B : List Nat) (h : Nat) : splitS S A h B = setS (setS S (h :: B)) A := by
  funext k
  unfold splitS setS
  rfl
theorem joinS_eq (S : Nat → List Nat) (a b : Nat) : joinS S a b = setS S (S a ++ S b) := by
  funext k
  unfold joinS setS
  simp only [List.mem_append]
theorem upd_eq (S : Nat → List Nat) (h : Nat) : upd S h [h] = setS S [h] := by
  funext k
  simp [upd, setS]
/-- Cut in two. -/
def cut2 (S : Nat → List Nat) (X Y : List Nat) : Nat → List Nat := setS (setS S Y) X
theorem cut2_nilX {S : Nat → List Nat} {Y : List Nat} (h : ∀ k ∈ Y, S k = Y) : cut2 S [] Y = S := by unfold cut2; rw [setS_nil, setS_self h]
theorem cut2_nilY {S : Nat → List Nat} {X : List Nat} (h : ∀ k ∈ X, S k = X) : cut2 S X [] = S := by unfold cut2; rw [setS_nil, setS_self h]
theorem cut2_X {S : Nat → List Nat} {X Y : List Nat} {k : Nat} (h : k ∈ X) : cut2 S X Y k = X := setS_in h
theorem cut2_Y {S : Nat → List Nat} {X Y : List Nat} {k : Nat} (h : k ∈ Y) (hx : k ∉ X) : cut2 S X Y k = Y := by unfold cut2; rw [setS_out hx, setS_in h]
theorem cut2_out {S : Nat → List Nat} {X Y : List Nat} {k : Nat} (h : k ∉ Y) (hx : k ∉ X) : cut2 S X Y k = S k := by unfold cut2; rw [setS_out hx, setS_out h]

end Go.Proofs.Ytnpfagpgploolaa
