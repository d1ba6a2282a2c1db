/- Nodes cut apart one by one, and joined one by one. No program. -/
import Derived.Test.YthnocaiehhcdeabOneSeq
namespace Go.Proofs.Ythnocaiehhcdeab
open Go.ChangeShapes Go.WideShapes Go.ChangeAt Go.RowKit
set_option linter.unusedVariables false

/-- The first c nodes are apart, the others stand in one sequence. -/
structure Cuts (S : Nat → List Nat) (xs : List Nat) (c : Nat) : Prop where
  low : ∀ j (hj : j < xs.length), j < c → S xs[j] = [xs[j]]
  high : ∀ j (hj : j < xs.length), c ≤ j → S xs[j] = xs.drop c
theorem Cuts.start {n : Nat} {S : Nat → List Nat} {xs : List Nat} (O : One n S xs) : Cuts S xs 0 := ⟨fun j hj h => by omega, fun j hj _ => by rw [List.drop_zero]; exact O.seq _ (List.getElem_mem _)⟩
theorem Cuts.at0 {S : Nat → List Nat} {xs : List Nat} (C : Cuts S xs 0) (h0 : 0 < xs.length) : S xs[0] = [] ++ xs[0] :: xs.drop 1 := by
  rw [C.high 0 h0 (by omega), List.nil_append, List.drop_zero]
  exact (List.drop_eq_getElem_cons h0)
theorem Cuts.first {S : Nat → List Nat} {xs : List Nat} (C : Cuts S xs 0) (h0 : 0 < xs.length) : Cuts (splitS S [] xs[0] (xs.drop 1)) xs 0 := by
  refine ⟨fun j hj h => by omega, fun j hj _ => ?_⟩
  unfold splitS
  have e : xs[0] :: xs.drop 1 = xs := (List.drop_eq_getElem_cons h0).symm
  rw [if_neg (by simp), e, if_pos (List.getElem_mem _), List.drop_zero]
theorem Cuts.atS {S : Nat → List Nat} {xs : List Nat} {c : Nat} (C : Cuts S xs c) (h : c + 1 < xs.length) : S xs[c + 1] = [xs[c]] ++ xs[c + 1] :: xs.drop (c + 1 + 1) := by
  rw [C.high (c + 1) h (by omega), List.drop_eq_getElem_cons (by omega), List.drop_eq_getElem_cons h]; rfl
theorem Cuts.next {S : Nat → List Nat} {xs : List Nat} {c : Nat} (C : Cuts S xs c) (hn : xs.Nodup) (h : c + 1 < xs.length) : Cuts (splitS S [xs[c]] xs[c + 1] (xs.drop (c + 1 + 1))) xs (c + 1) := by
  have e : xs[c + 1] :: xs.drop (c + 1 + 1) = xs.drop (c + 1) := (List.drop_eq_getElem_cons h).symm
  have inj : ∀ i j (hi : i < xs.length) (hj : j < xs.length), xs[i] = xs[j] → i = j := fun i j hi hj e => (List.getElem_inj hn).1 e
  refine ⟨fun j hj hjc => ?_, fun j hj hjc => ?_⟩
  · unfold splitS
    by_cases ejc : j = c
    · subst ejc; rw [if_pos (by simp)]
    · rw [if_neg (by simp; exact fun e => ejc (inj _ _ _ _ e)), e, if_neg, C.low j hj (by omega)]
      intro hm
      obtain ⟨i, hi, hie⟩ := List.mem_iff_getElem.1 hm
      rw [List.getElem_drop] at hie
      have := inj _ _ _ _ hie
      omega
  · unfold splitS
    rw [if_neg (by simp; exact fun e => by have := inj _ _ _ _ e; omega), e, if_pos]
    rw [List.mem_drop_iff_getElem]
    exact ⟨j - (c + 1), by omega, by congr 1; omega⟩
/-- All nodes are apart. -/
def Singles (S : Nat → List Nat) (xs : List Nat) : Prop := ∀ h ∈ xs, S h = [h]
theorem Cuts.done {S : Nat → List Nat} {xs : List Nat} {c : Nat} (C : Cuts S xs c) (h : c + 1 = xs.length) : Singles S xs := fun x hx => by
  obtain ⟨j, hj, rfl⟩ := List.mem_iff_getElem.1 hx
  by_cases hjc : j < c
  · exact C.low j hj hjc
  · have e : j = c := by omega
    subst e
    rw [C.high j hj (by omega), List.drop_eq_getElem_cons hj, List.drop_eq_nil_of_le (by omega)]
/-- Some nodes stand in one sequence, the others are apart. -/
structure Half (S : Nat → List Nat) (xs B : List Nat) : Prop where
  one : ∀ h ∈ B, S h = B
  rest : ∀ h ∈ xs, h ∉ B → S h = [h]
theorem Half.start {S : Nat → List Nat} {xs : List Nat} (C : Singles S xs) : Half S xs [] := ⟨by simp, fun h hh _ => C h hh⟩
theorem Half.first {S : Nat → List Nat} {xs : List Nat} {a : Nat} (C : Half S xs []) (ha : a ∈ xs) : Half S xs [a] := ⟨fun h hh => by simp at hh; subst hh; exact C.rest h ha (by simp), fun h hh hn => C.rest h hh (by simp)⟩
theorem Half.next {S : Nat → List Nat} {xs B : List Nat} {a b : Nat} (C : Half S xs B) (ha : a ∈ xs) (hn : a ∉ B) (hb : b ∈ B) : Half (joinS S b a) xs (B ++ [a]) := by
  have e1 := C.one b hb
  have e2 := C.rest a ha hn
  refine ⟨fun h hh => ?_, fun h hh hno => ?_⟩
  · unfold joinS; rw [e1, e2, if_pos]
    rcases List.mem_append.1 hh with h1 | h1
    · exact .inl h1
    · exact .inr h1
  · unfold joinS; rw [e1, e2, if_neg]
    · exact C.rest h hh (fun x => hno (by simp [x]))
    · rintro (x | x)
      · exact hno (by simp [x])
      · exact hno (List.mem_append_right _ x)
theorem Half.ne {S : Nat → List Nat} {xs B : List Nat} {a b : Nat} (C : Half S xs B) (ha : a ∈ xs) (hn : a ∉ B) (hb : b ∈ B) : S b ≠ S a := by
  rw [C.one b hb, C.rest a ha hn]; intro e; rw [e] at hn; simp at hn

end Go.Proofs.Ythnocaiehhcdeab
