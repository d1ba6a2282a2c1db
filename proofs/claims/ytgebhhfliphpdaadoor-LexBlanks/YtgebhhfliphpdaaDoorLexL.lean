/- What the law LexBlanks asks by itself: which of n things a number speaks of; its table of blanks; numbers that came in. -/
import Derived.Test.YtgebhhfliphpdaaDoorLexD
import Derived.Test.YtgebhhfliphpdaaDoorLexG
import Derived.Deep.CutBlock
import Derived.Deep.DeepCutAuto
namespace Go.Proofs.YtgebhhfliphpdaaDoor
open Go.ChangeShapes Go.WideShapes Go.ChangeAt Go.RowKit
set_option linter.unusedVariables false

/-- A slice of numbers that came in. -/
def Ints (w : World) (ao : Option Addr) (n : Nat) (f : Nat → Int) : Prop :=
  ∀ j, j < n → ∃ b off, ao = some ⟨b, off, none⟩ ∧ b < w.heap.size ∧ w.cell? ⟨b, off + j, none⟩ = some (.int .i64 (f j)) ∧ -9223372036854775808 ≤ f j ∧ f j ≤ 9223372036854775807
theorem Ints.below {w w' : World} {ao : Option Addr} {n : Nat} {f : Nat → Int} (h : Ints w ao n f) (b : Below w.heap.size w w') : Ints w' ao n f := fun j hj => by
  obtain ⟨b1, off, h1, h2, h3, h4⟩ := h j hj
  exact ⟨b1, off, h1, Nat.lt_of_lt_of_le h2 b.size, (b.cell (p := ⟨b1, off + j, none⟩) h2).trans h3, h4⟩
/-- Which of n things c speaks of. -/
def pk (c : Int) (n : Nat) : Nat := (if c < 0 then -(c + 1) else c).toNat % n
theorem pk_lt (c : Int) (n : Nat) (h : 0 < n) : pk c n < n := Nat.mod_lt _ h
theorem tmod_toNat (c : Int) (n : Nat) (h : 0 ≤ c) : c.tmod (n : Int) = ((c.toNat % n : Nat) : Int) := by
  obtain ⟨k, rfl⟩ := Int.eq_ofNat_of_zero_le h
  rw [Int.tmod_eq_emod_of_nonneg (by omega)]
  simp
theorem pick_c (c : Int) (n : Nat) (w : World) (h1 : -9223372036854775808 ≤ c) (h2 : c ≤ 9223372036854775807) (hn : 0 < n) (hn2 : n ≤ 1000) :
    Calls Tryd.prog 15 #[.int .i64 c, .int .i64 (n : Nat)] w fun e w' => e = .returned (.int .i64 (pk c n : Nat)) ∧ w' = w := by
  have n0 : ((n : Int) == 0) = false := by simp; omega
  have n1 : ¬ (n : Int) = 0 := by omega
  have n2 : ¬ (n : Int) = -1 := by omega
  by_cases h : c < 0
  · have e1 : IntKind.i64.wrap (c + 1) = c + 1 := by rw [IntKind.wrap_i64]; omega
    have e2 : IntKind.i64.wrap (-(c + 1)) = -(c + 1) := by rw [IntKind.wrap_i64]; omega
    have e3 : (-(c + 1)).tmod (n : Int) = ((pk c n : Nat) : Int) := by
      unfold pk
      rw [if_pos h]
      exact tmod_toNat _ _ (by omega)
    have e4 : IntKind.i64.wrap ((pk c n : Nat) : Int) = ((pk c n : Nat) : Int) := by have := pk_lt c n hn; rw [IntKind.wrap_i64]; omega
    go_enter Tryd.func15, Tryd.ntmps15
    go_wp2
    go_ret
    exact ⟨rfl, rfl⟩
  · have e3 : c.tmod (n : Int) = ((pk c n : Nat) : Int) := by
      unfold pk
      rw [if_neg h]
      exact tmod_toNat _ _ (by omega)
    have e4 : IntKind.i64.wrap ((pk c n : Nat) : Int) = ((pk c n : Nat) : Int) := by have := pk_lt c n hn; rw [IntKind.wrap_i64]; omega
    go_enter Tryd.func15, Tryd.ntmps15
    go_wp2
    go_ret
    exact ⟨rfl, rfl⟩
/-- The table of blanks. -/
abbrev bkA : Array Value := #[.string ⟨#[32]⟩, .string ⟨#[9]⟩, .string ⟨#[10]⟩, .string ⟨#[13]⟩, .string ⟨#[32, 32]⟩, .string ⟨#[32, 10]⟩]
theorem bkA_at (k : Nat) (hk : k < 6) : bkA[k]? = some (.string ⟨(bks k).toArray⟩) := by
  match k, hk with
  | 0, _ => rfl
  | 1, _ => rfl
  | 2, _ => rfl
  | 3, _ => rfl
  | 4, _ => rfl
  | 5, _ => rfl
theorem intsL_more (l : List Nat) (x : Nat) : intsL (l ++ [x]) = intsL l ++ [.int .i64 (x : Int)] := by simp [intsL]
end Go.Proofs.YtgebhhfliphpdaaDoor
