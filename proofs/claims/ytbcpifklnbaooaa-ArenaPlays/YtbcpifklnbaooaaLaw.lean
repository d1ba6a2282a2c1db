/- What the three laws share: the chapter's first example, and which of n things a number speaks of. -/
import Derived.Test.YtbcpifklnbaooaaArStr
namespace Go.Proofs.Ytbcpifklnbaooaa
open Go.ChangeShapes Go.WideShapes Go.ChangeAt Go.RowKit
set_option linter.unusedVariables false

theorem Step.ofBelow {I : Nat → Prop} {w w' : World} (o : Nat → Nat) (h : Below w.heap.size w w') : Step I w o w' o := ⟨h.os, h.tape, h.output, h.size, fun _ _ => rfl, fun k hk _ => h.block k hk⟩
theorem Step.toBelow {I : Nat → Prop} {w w' : World} {o o' : Nat → Nat} (s : Step I w o w' o') (h0 : ∀ k, k < w.heap.size → ¬ I (o k)) : Below w.heap.size w w' := s.below h0
theorem below_drew {B : Nat} {a w : World} (h : Below B a w) (n : Nat) : Below B a (w.drewN n) := ⟨h.os, h.tape, h.output, h.size, h.block⟩

/-- An argument that is a slice of numbers, only read. -/
def Arg (w : World) (ao : Option Addr) (len : Nat) (z : Nat → Int) : Prop :=
  ∀ j, j < len → ∃ b off, ao = some ⟨b, off, none⟩ ∧ b < w.heap.size ∧ w.cell? ⟨b, off + j, none⟩ = some (.int .i64 (z j)) ∧ -9223372036854775808 ≤ z j ∧ z j ≤ 9223372036854775807
theorem Arg.below {w w' : World} {ao : Option Addr} {len : Nat} {z : Nat → Int} (h : Arg w ao len z) (hb : Below w.heap.size w w') : Arg w' ao len z := by
  intro j hj
  obtain ⟨b, off, h1, h2, h3, h4⟩ := h j hj
  exact ⟨b, off, h1, Nat.lt_of_lt_of_le h2 hb.size, (hb.cell (p := ⟨b, off + j, none⟩) h2).trans h3, h4⟩
/-- All labels from one on. -/
def Pos (k : Nat) : Prop := 0 < k
/-- The labels at the start of a law: all that was there has label nought. -/
def o0 : Nat → Nat := fun _ => 0
theorem Step.old {w w' : World} {o' : Nat → Nat} (s : Step Pos w o0 w' o') : Below w.heap.size w w' := s.below (fun k _ => by simp [Pos, o0])

theorem pick_any (c : Int) (n : Nat) (w : World) (h1 : -9223372036854775808 ≤ c) (h2 : c ≤ 9223372036854775807) (hn : 0 < n) (hn2 : n ≤ 9223372036854775807) :
    Calls Try.prog 15 #[.int .i64 c, .int .i64 n] w fun e w' => ∃ r : Nat, r < n ∧ e = .returned (.int .i64 r) ∧ w' = w := by
  have hz : ((n : Int) == 0) = false := by simp only [beq_eq_false_iff_ne, ne_eq]; omega
  have hm1 : ((n : Int) == -1) = false := by simp only [beq_eq_false_iff_ne, ne_eq]; omega
  by_cases hc : c < 0
  · go_enter Try.func15, Try.ntmps15
    go_wp2
    go_ret
    have e1 : (-((c + 1).tmod n) : Int) = (-(c + 1)) % n := by rw [← Int.neg_tmod, Int.tmod_eq_emod_of_nonneg (by omega)]
    have e2 := Int.emod_nonneg (-(c + 1)) (show (n : Int) ≠ 0 by omega)
    have e3 := Int.emod_lt_of_pos (-(c + 1)) (show (0 : Int) < n by omega)
    exact ⟨((-(c + 1)) % (n : Int)).toNat, by omega, ret_int (by omega), rfl⟩
  · go_enter Try.func15, Try.ntmps15
    go_wp2
    go_ret
    have e2 := Int.emod_nonneg c (show (n : Int) ≠ 0 by omega)
    have e3 := Int.emod_lt_of_pos c (show (0 : Int) < n by omega)
    exact ⟨(c % (n : Int)).toNat, by omega, ret_int (by omega), rfl⟩

theorem awake_any (w : World) : Calls Try.prog 6 #[] w fun e w' => e = .returned (.bool true) ∧ Below w.heap.size w w' := by
  go_enter Try.func6, Try.ntmps6
  go_wp2_with fail
  refine (newStr w (fun _ => 0) 1 2 (by omega)).mono ?_
  rintro e w1 ⟨rfl, o1, a1, s1⟩
  have b1 : Step (fun k => 0 < k) w (fun _ => 0) w1 o1 := s1.mono fun _ h => h.elim
  go_wp2_with fail
  refine (putPushStr w1 o1 1 _ 2 0 [] _ (by omega) a1).mono ?_
  rintro e w2 ⟨rfl, o2, a2, s2⟩
  have b2 := b1.trans (s2.mono fun k h => by unfold IL at h; omega)
  clear a1 s1 s2 b1
  go_wp2_with fail
  refine (putPushStr w2 o2 1 _ 2 1 _ _ (by omega) a2).mono ?_
  rintro e w3 ⟨rfl, o3, a3, s3⟩
  have b3 := b2.trans (s3.mono fun k h => by unfold IL at h; omega)
  clear a2 s3 b2
  go_wp2_with fail
  refine (putFullStr w3 o3 1 _ 2 2 _ [] _ rfl a3).mono ?_
  rintro e w4 ⟨rfl, m, rfl⟩
  go_wp2_with fail
  refine (getInStr _ o3 1 _ 2 2 _ [] 0 ⟨#[97]⟩ (by omega) rfl rfl (a3.drewN m)).mono ?_
  rintro e w5 ⟨rfl, rfl⟩
  go_wp2_with fail
  refine (lenStr _ o3 1 _ 2 2 _ [] (a3.drewN m)).mono ?_
  rintro e w6 ⟨rfl, m2, rfl⟩
  have b4 : Below w.heap.size w (w3.drewN (m + m2)) := below_drew (b3.toBelow (fun k hk => by simp)) (m + m2)
  clear a3 b3
  go_wp2
  go_ret
  exact ⟨ret_bool (by simp), b4⟩

end Go.Proofs.Ytbcpifklnbaooaa
