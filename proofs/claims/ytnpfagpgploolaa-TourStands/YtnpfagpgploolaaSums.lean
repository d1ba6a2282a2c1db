/- Items and what some of them come to: adding up goes piece by piece. No program. -/
import Derived.Test.YtnpfagpgploolaaAr
namespace Go.Proofs.Ytnpfagpgploolaa
set_option linter.unusedVariables false

/-- What a node has: its value, whether it counts, its flags. -/
structure It where
  v : Int
  c : Bool
  f : Nat
/-- What some nodes come to. -/
structure Ag where
  count : Nat
  sum : Int
  least : Int
  most : Int
  flags : Nat

theorem Ag.ext2 {a b : Ag} (h1 : a.count = b.count) (h2 : a.sum = b.sum) (h3 : a.least = b.least) (h4 : a.most = b.most) (h5 : a.flags = b.flags) : a = b := by
  cases a; cases b; simp_all

def It.may (x : It) : Prop := -1099511627776 ≤ x.v ∧ x.v ≤ 1099511627776 ∧ x.f ≤ 255
def Ag.zero : Ag := ⟨0, 0, 0, 0, 0⟩
def It.one (x : It) : Ag := if x.c = true then ⟨1, x.v, x.v, x.v, x.f⟩ else ⟨0, 0, 0, 0, x.f⟩
def Ag.both (a b : Ag) : Ag :=
  if a.count = 0 then ⟨a.count + b.count, a.sum + b.sum, b.least, b.most, a.flags ||| b.flags⟩
  else if b.count = 0 then ⟨a.count + b.count, a.sum + b.sum, a.least, a.most, a.flags ||| b.flags⟩
  else ⟨a.count + b.count, a.sum + b.sum, min a.least b.least, max a.most b.most, a.flags ||| b.flags⟩
def agg : List It → Ag
  | [] => Ag.zero
  | x :: xs => x.one.both (agg xs)

theorem both_count (a b : Ag) : (a.both b).count = a.count + b.count := by unfold Ag.both; repeat (first | rfl | split)
theorem both_sum (a b : Ag) : (a.both b).sum = a.sum + b.sum := by unfold Ag.both; repeat (first | rfl | split)
theorem both_flags (a b : Ag) : (a.both b).flags = a.flags ||| b.flags := by unfold Ag.both; repeat (first | rfl | split)
theorem both_least (a b : Ag) : (a.both b).least = if a.count = 0 then b.least else if b.count = 0 then a.least else min a.least b.least := by unfold Ag.both; repeat (first | rfl | split)
theorem both_most (a b : Ag) : (a.both b).most = if a.count = 0 then b.most else if b.count = 0 then a.most else max a.most b.most := by unfold Ag.both; repeat (first | rfl | split)

theorem zero_both (a : Ag) : Ag.zero.both a = a := by
  apply Ag.ext2 <;> simp [both_count, both_sum, both_flags, both_least, both_most, Ag.zero]
theorem both_assoc (a b c : Ag) : (a.both b).both c = a.both (b.both c) := by
  apply Ag.ext2
  · simp only [both_count]; omega
  · simp only [both_sum]; omega
  · simp only [both_least, both_count]
    by_cases h1 : a.count = 0 <;> by_cases h2 : b.count = 0 <;> by_cases h3 : c.count = 0 <;> simp [h1, h2, h3, Int.min_assoc]
  · simp only [both_most, both_count]
    by_cases h1 : a.count = 0 <;> by_cases h2 : b.count = 0 <;> by_cases h3 : c.count = 0 <;> simp [h1, h2, h3, Int.max_assoc]
  · simp only [both_flags, Nat.or_assoc]
theorem agg_append (xs ys : List It) : agg (xs ++ ys) = (agg xs).both (agg ys) := by
  induction xs with
  | nil => simp [agg, zero_both]
  | cons x xs ih => simp [agg, ih, both_assoc]
theorem agg_none (xs : List It) (h : (agg xs).count = 0) : (agg xs).sum = 0 ∧ (agg xs).least = 0 ∧ (agg xs).most = 0 := by
  induction xs with
  | nil => simp [agg, Ag.zero]
  | cons x xs ih =>
    simp only [agg, both_count] at h
    have h1 : x.one.count = 0 := by omega
    have h2 := ih (by omega)
    have h3 : x.one.sum = 0 := by unfold It.one at h1 ⊢; split at h1 <;> simp_all
    simp only [agg, both_sum, both_least, both_most, h1, if_true, h2, h3]
    simp
theorem both_zero (xs : List It) : (agg xs).both Ag.zero = agg xs := by
  have := agg_append xs []
  rw [List.append_nil] at this
  exact this.symm
theorem agg_one (x : It) : agg [x] = x.one := by
  have h := both_zero [x]
  simp only [agg] at h
  rw [both_assoc, zero_both] at h
  unfold agg
  unfold agg
  unfold Ag.both Ag.zero It.one
  by_cases hc : x.c = true <;> simp [hc]
theorem agg_snoc (xs : List It) (x : It) : agg (xs ++ [x]) = (agg xs).both x.one := by rw [agg_append, agg_one]
theorem agg_mid (xs ys : List It) (x : It) : agg (xs ++ x :: ys) = ((agg xs).both x.one).both (agg ys) := by
  rw [agg_append, agg, both_assoc]

theorem or_le {a b : Nat} (h1 : a ≤ 255) (h2 : b ≤ 255) : a ||| b ≤ 255 := by
  have := Nat.or_lt_two_pow (x := a) (y := b) (n := 8) (by omega) (by omega)
  omega
structure Ag.bd (a : Ag) (n : Nat) : Prop where
  count : a.count ≤ n
  sum1 : -(1099511627776 * (n : Int)) ≤ a.sum
  sum2 : a.sum ≤ 1099511627776 * (n : Int)
  least1 : -1099511627776 ≤ a.least
  least2 : a.least ≤ 1099511627776
  most1 : -1099511627776 ≤ a.most
  most2 : a.most ≤ 1099511627776
  flags : a.flags ≤ 255
theorem one_bd (x : It) (h : x.may) : x.one.bd 1 := by
  obtain ⟨h1, h2, h3⟩ := h
  unfold It.one
  split <;> constructor <;> simp <;> omega
theorem both_bd {a b : Ag} {n m : Nat} (ha : a.bd n) (hb : b.bd m) : (a.both b).bd (n + m) := by
  obtain ⟨a1, a2, a3, a4, a5, a6, a7, a8⟩ := ha
  obtain ⟨b1, b2, b3, b4, b5, b6, b7, b8⟩ := hb
  constructor
  · rw [both_count]; omega
  · rw [both_sum]; omega
  · rw [both_sum]; omega
  · rw [both_least]; split; · omega
    split <;> omega
  · rw [both_least]; split; · omega
    split <;> omega
  · rw [both_most]; split; · omega
    split <;> omega
  · rw [both_most]; split; · omega
    split <;> omega
  · rw [both_flags]; exact or_le a8 b8
theorem agg_bd : ∀ (xs : List It), (∀ x ∈ xs, x.may) → (agg xs).bd xs.length
  | [], _ => by constructor <;> simp [agg, Ag.zero]
  | x :: xs, h => by
    have h1 := one_bd x (h x (by simp))
    have h2 := agg_bd xs (fun y hy => h y (by simp [hy]))
    have := both_bd h1 h2
    rw [Nat.add_comm] at this
    exact this

end Go.Proofs.Ytnpfagpgploolaa
