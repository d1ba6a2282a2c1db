/- What all nodes come to hangs on no order; the items of a thousand nodes. No program. -/
import Derived.Test.YthnocaiehhcdeaaItems
import Derived.Test.YthnocaiehhcdeaaOneSeq
namespace Go.Proofs.Ythnocaiehhcdeaa
open Go.ChangeShapes Go.WideShapes Go.ChangeAt Go.RowKit
set_option linter.unusedVariables false

theorem one_comm (x y : It) : x.one.both y.one = y.one.both x.one := by
  apply Ag.ext2
  · simp only [both_count]; omega
  · simp only [both_sum]; omega
  · simp only [both_least, It.one]
    by_cases hx : x.c = true <;> by_cases hy : y.c = true <;> simp [hx, hy]; omega
  · simp only [both_most, It.one]
    by_cases hx : x.c = true <;> by_cases hy : y.c = true <;> simp [hx, hy]; omega
  · simp only [both_flags, Nat.or_comm]
theorem agg_perm {xs ys : List It} (h : xs.Perm ys) : agg xs = agg ys := by
  induction h with
  | nil => rfl
  | cons x _ ih => simp only [agg, ih]
  | swap x y l => simp only [agg]; rw [← both_assoc, ← both_assoc, one_comm]
  | trans _ _ ih1 ih2 => exact ih1.trans ih2
theorem perm_range : ∀ (n : Nat) (xs : List Nat), xs.Nodup → (∀ h, h ∈ xs ↔ 1 ≤ h ∧ h ≤ n) → xs.Perm ((List.range n).map (· + 1)) := by
  intro n
  induction n with
  | zero =>
    intro xs _ hm
    cases xs with
    | nil => exact List.Perm.refl _
    | cons a l => have := (hm a).1 (by simp); omega
  | succ n ih =>
    intro xs hn hm
    have hin : n + 1 ∈ xs := (hm _).2 (by omega)
    have h1 := List.perm_cons_erase hin
    have h2 := ih (xs.erase (n + 1)) (hn.erase _) (fun h => by rw [hn.mem_erase_iff, hm]; omega)
    rw [List.range_succ, List.map_append]
    exact h1.trans ((List.Perm.cons _ h2).trans (List.perm_append_comm (l₁ := [n + 1])))
/-- The item of the node number i. -/
def longIt (i : Nat) : It := ⟨i, true, 0⟩
theorem long_agg : ∀ n : Nat, agg ((List.range (n + 1)).map longIt) = ⟨n + 1, (n : Int) * (n + 1) / 2, 0, n, 0⟩ := by
  intro n
  induction n with
  | zero => rfl
  | succ n ih =>
    rw [List.range_succ, List.map_append, List.map_singleton, agg_snoc, ih]
    have e : (((n + 1 : Nat) : Int) * (((n + 1 : Nat) : Int) + 1)) / 2 = (n : Int) * (n + 1) / 2 + ((n : Int) + 1) := by
      have h : (((n + 1 : Nat) : Int) * (((n + 1 : Nat) : Int) + 1)) = (n : Int) * (n + 1) + ((n : Int) + 1) * 2 := by
        rw [Int.natCast_add, Int.add_mul, Int.add_mul]; simp [Int.mul_add]; omega
      rw [h, Int.add_mul_ediv_right _ _ (by omega)]
    apply Ag.ext2
    · simp [both_count, It.one, longIt]
    · simp only [both_sum, It.one, longIt, if_true]; rw [e]; simp
    · simp [both_least, It.one, longIt]; omega
    · simp [both_most, It.one, longIt]; omega
    · simp [both_flags, It.one, longIt]
theorem long_all {xs : List Nat} {S : Nat → List Nat} {it : Nat → It} (O : One 1024 S xs) (h : ∀ j, j < 1024 → it (j + 1) = longIt j) : agg (xs.map it) = ⟨1024, 523776, 0, 1023, 0⟩ := by
  rw [agg_perm ((perm_range 1024 xs O.nodup O.mem).map it), List.map_map]
  have : (List.range 1024).map (it ∘ (· + 1)) = (List.range 1024).map longIt := List.map_congr_left (fun j hj => h j (by simpa using hj))
  rw [this, long_agg 1023]
  rfl
/-- The items so far, and noughts behind them. -/
def longL (k : Nat) : List It := (List.range k).map longIt ++ List.replicate (1024 - k) ⟨0, false, 0⟩
theorem longL_length {k : Nat} (hk : k ≤ 1024) : (longL k).length = 1024 := by simp [longL]; omega
theorem longL_set (k : Nat) (hk : k < 1024) : (((itsL (longL k)).set (k * 3) (.int .i64 k)).set (k * 3 + 1) (.bool true)).set (k * 3 + 2) (.int .i64 0) = itsL (longL (k + 1)) := by
  obtain ⟨d, hd⟩ : ∃ d, 1024 - k = d + 1 := ⟨1024 - k - 1, by omega⟩
  have hd2 : 1024 - (k + 1) = d := by omega
  unfold longL
  rw [hd, hd2, List.replicate_succ, List.range_succ, List.map_append, List.map_singleton]
  have hl : (itsL ((List.range k).map longIt)).length = k * 3 := by rw [itsL_length]; simp
  rw [itsL_append, itsL_append, itsL_append]
  simp only [itsL, longIt]
  rw [← hl]
  simp [List.set_append_right]
theorem longL_all : longL 1024 = (List.range 1024).map longIt := by unfold longL; rw [Nat.sub_self]; exact List.append_nil _
theorem longL_zero : ∀ n : Nat, (madeCells (Value.agg #[.int .i64 0, .bool false, .int .i64 0]).cells (n * 3)).toList = itsL (List.replicate n ⟨0, false, 0⟩) := by
  intro n
  induction n with
  | zero => simp [madeCells, itsL]
  | succ n ih =>
    rw [List.replicate_succ', itsL_append, ← ih]
    have e : (n + 1) * 3 = n * 3 + 1 + 1 + 1 := by omega
    rw [e]
    have m0 : n * 3 % 3 = 0 := by omega
    have m1 : (n * 3 + 1) % 3 = 1 := by omega
    have m2 : (n * 3 + 1 + 1) % 3 = 2 := by omega
    simp [madeCells, List.range_succ, Value.cells, m0, m1, m2, itsL]

end Go.Proofs.Ythnocaiehhcdeaa
