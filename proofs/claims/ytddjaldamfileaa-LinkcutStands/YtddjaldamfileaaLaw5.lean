/- What the laws share: which of n things a number speaks of, lists that are only read. -/
import Derived.Test.YtddjaldamfileaaWays
namespace Go.Proofs.Ytddjaldamfileaa
open Go.ChangeShapes Go.WideShapes Go.ChangeAt Go.RowKit
set_option linter.unusedVariables false

theorem Step.ofBelow {I : Nat → Prop} {w w' : World} (o : Nat → Nat) (h : Below w.heap.size w w') : Step I w o w' o := ⟨h.os, h.tape, h.output, h.size, fun _ _ => rfl, fun k hk _ => h.block k hk⟩
theorem Step.toBelow {I : Nat → Prop} {w w' : World} {o o' : Nat → Nat} (s : Step I w o w' o') (h0 : ∀ k, k < w.heap.size → ¬ I (o k)) : Below w.heap.size w w' := s.below h0
theorem below_drew {B : Nat} {a w : World} (h : Below B a w) (n : Nat) : Below B a (w.drewN n) := ⟨h.os, h.tape, h.output, h.size, h.block⟩

/-- An argument that is a slice of numbers, only read. -/
def Arg (w : World) (ao : Option Addr) (len : Nat) (z : Nat → Int) : Prop :=
  ∀ j, j < len → ∃ b off, ao = some ⟨b, off, none⟩ ∧ b < w.heap.size ∧ w.cell? ⟨b, off + j, none⟩ = some (.int .i64 (z j)) ∧ -9223372036854775808 ≤ z j ∧ z j ≤ 9223372036854775807
theorem Arg.below {w w' : World} {ao : Option Addr} {len : Nat} {z : Nat → Int} (h : Arg w ao len z) (hb : Below w.heap.size w w') : Arg w' ao len z := by
  intro j hj
  obtain ⟨b, off, h1, h2, h3, h4⟩ := h j hj
  exact ⟨b, off, h1, Nat.lt_of_lt_of_le h2 hb.size, (hb.cell (p := ⟨b, off + j, none⟩) h2).trans h3, h4⟩
/-- All labels from one on. -/
def Pos (k : Nat) : Prop := 0 < k
/-- The labels at the start of a law: all that was there has label nought. -/
def o0 : Nat → Nat := fun _ => 0
theorem Step.old {w w' : World} {o' : Nat → Nat} (s : Step Pos w o0 w' o') : Below w.heap.size w w' := s.below (fun k _ => by simp [Pos, o0])

theorem pick_any (c : Int) (n : Nat) (w : World) (h1 : -9223372036854775808 ≤ c) (h2 : c ≤ 9223372036854775807) (hn : 0 < n) (hn2 : n ≤ 9223372036854775807) :
    Calls Try.prog 12 #[.int .i64 c, .int .i64 n] w fun e w' => ∃ r : Nat, r < n ∧ e = .returned (.int .i64 r) ∧ w' = w := by
  have hz : ((n : Int) == 0) = false := by simp only [beq_eq_false_iff_ne, ne_eq]; omega
  have hm1 : ((n : Int) == -1) = false := by simp only [beq_eq_false_iff_ne, ne_eq]; omega
  by_cases hc : c < 0
  · go_enter Try.func12, Try.ntmps12
    go_wp2
    go_ret
    have e1 : (-((c + 1).tmod n) : Int) = (-(c + 1)) % n := by rw [← Int.neg_tmod, Int.tmod_eq_emod_of_nonneg (by omega)]
    have e2 := Int.emod_nonneg (-(c + 1)) (show (n : Int) ≠ 0 by omega)
    have e3 := Int.emod_lt_of_pos (-(c + 1)) (show (0 : Int) < n by omega)
    exact ⟨((-(c + 1)) % (n : Int)).toNat, by omega, ret_int (by omega), rfl⟩
  · go_enter Try.func12, Try.ntmps12
    go_wp2
    go_ret
    have e2 := Int.emod_nonneg c (show (n : Int) ≠ 0 by omega)
    have e3 := Int.emod_lt_of_pos c (show (0 : Int) < n by omega)
    exact ⟨(c % (n : Int)).toNat, by omega, ret_int (by omega), rfl⟩


/-- A slice of handles, only read: its block lies under label i. -/
def Vw (w : World) (o : Nat → Nat) (i : Nat) (v : Value) (xs : List Nat) : Prop :=
  ∃ ao cap, v = .slice ao xs.length cap ∧ xs.length ≤ cap ∧ cap ≤ maxLen ∧ (0 < xs.length → ∃ g off, ao = some ⟨g, off, none⟩ ∧ o g = i ∧ g < w.heap.size ∧ ∀ j (hj : j < xs.length), w.cell? ⟨g, off + j, none⟩ = some (.int .i64 (xs[j] : Nat)))
theorem Vw.step {I : Nat → Prop} {w w' : World} {o o' : Nat → Nat} {i : Nat} {v : Value} {xs : List Nat} (h : Vw w o i v xs) (s : Step I w o w' o') (hi : ¬ I i) : Vw w' o' i v xs := by
  obtain ⟨ao, cap, rfl, hc, hm, hp⟩ := h
  refine ⟨ao, cap, rfl, hc, hm, fun h0 => ?_⟩
  obtain ⟨g, off, h1, h2, h3, h4⟩ := hp h0
  refine ⟨g, off, h1, (s.lab g h3).trans h2, Nat.lt_of_lt_of_le h3 s.size, fun j hj => ?_⟩
  rw [← h4 j hj]
  unfold World.cell?
  show (match w'.heap[g]? with | _ => _) = (match w.heap[g]? with | _ => _)
  rw [s.block g h3 (by rw [h2]; exact hi)]
theorem Row.vw {w : World} {o : Nat → Nat} {i : Nat} {v : Value} {xs : List Nat} (h : Row w o i 3 1 v xs.length (intsL xs)) : Vw w o i v xs := by
  by_cases h0 : 0 < xs.length
  · obtain ⟨g, cap, rfl, hg, hc, hm, hlt, hcell, hfr⟩ := h.pos h0
    refine ⟨_, cap, rfl, hc, hm, fun _ => ⟨g, 0, rfl, hg, hlt, fun j hj => ?_⟩⟩
    rw [Nat.zero_add, hcell j (by omega), intsL_get xs j hj]
  · rcases h.1.2 with ⟨rfl, _⟩ | ⟨g, cap, cur, rfl, _, _, hc, hm, _⟩
    · exact ⟨none, 0, by rw [show xs.length = 0 by omega], by omega, by unfold maxLen; omega, fun h => absurd h h0⟩
    · exact ⟨_, cap, rfl, hc, hm, fun h => absurd h h0⟩

theorem same_true (w : World) (o o2 : Nat → Nat) (i j : Nat) (va vb : Value) (xs : List Nat) (ha : Vw w o i va xs) (hb : Vw w o2 j vb xs) (hl : xs.length ≤ 4096) :
    Calls Try.prog 23 #[va, vb] w fun e w' => e = .returned (.bool true) ∧ ∃ m, w' = w.drewN m := by
  obtain ⟨aa, ca, rfl, hca, hma, hpa⟩ := ha
  obtain ⟨ab, cb, rfl, hcb, hmb, hpb⟩ := hb
  unfold maxLen at hma hmb
  go_enter Try.func23, Try.ntmps23
  go_wp2
  go_loopw [5] (fun v wr => ∃ k : Nat, k ≤ xs.length ∧ v = .int .i64 (k : Nat) ∧ ∃ m, wr = w.drewN m) (fun v _ => xs.length - (intOf v).toNat)
  case atStart => exact ⟨0, by omega, by go_num, 0, rfl⟩
  case round =>
    obtain ⟨k, hk, rfl, m, rfl⟩ := hrel
    by_cases hlt : k < xs.length
    · obtain ⟨ga, fa, rfl, _, _, hcella⟩ := hpa (by omega)
      obtain ⟨gb, fb, rfl, _, _, hcellb⟩ := hpb (by omega)
      have c1 := hcella k hlt
      have c2 := hcellb k hlt
      obtain ⟨x, hx⟩ : ∃ x, x = xs[k] := ⟨_, rfl⟩
      rw [← hx] at c1 c2
      clear hpa hpb hcella hcellb hx
      go_wp2
      go_quiet (fail)
      go_wp2
      go_roundw
      case rel => (try ((repeat apply Exists.intro); refine ⟨?_, rfl⟩)); exact ⟨k + 1, by omega, by go_num, _, rfl⟩
      case measure => simp [intOf]; omega
    · obtain rfl : k = xs.length := by omega
      clear hpa hpb
      go_wp2
      go_ret
      exact ⟨rfl, m, rfl⟩

theorem Step.pos0 {w w' : World} {o o' : Nat → Nat} (s : Step (fun _ => False) w o w' o') : Step Pos w o w' o' := s.mono fun k hk => hk.elim

theorem Step.cell {I : Nat → Prop} {w w' : World} {o o' : Nat → Nat} (s : Step I w o w' o') {g : Nat} (hg : g < w.heap.size) (hi : ¬ I (o g)) (j : Nat) : w'.cell? ⟨g, j, none⟩ = w.cell? ⟨g, j, none⟩ := by
  unfold World.cell?
  show (match w'.heap[g]? with | _ => _) = (match w.heap[g]? with | _ => _)
  rw [s.block g hg hi]
theorem intsL_append (a b : List Nat) : intsL (a ++ b) = intsL a ++ intsL b := by simp [intsL]

end Go.Proofs.Ytddjaldamfileaa
