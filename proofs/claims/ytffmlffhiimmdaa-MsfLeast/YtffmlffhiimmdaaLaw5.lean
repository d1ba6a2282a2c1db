/- What the laws share: which of n things a number speaks of, lists that are only read. -/
import Derived.Test.YtffmlffhiimmdaaWays
namespace Go.Proofs.Ytffmlffhiimmdaa
open Go.ChangeShapes Go.WideShapes Go.ChangeAt Go.RowKit
set_option linter.unusedVariables false

theorem Step.ofBelow {I : Nat → Prop} {w w' : World} (o : Nat → Nat) (h : Below w.heap.size w w') : Step I w o w' o := ⟨h.os, h.tape, h.output, h.size, fun _ _ => rfl, fun k hk _ => h.block k hk⟩
theorem Step.toBelow {I : Nat → Prop} {w w' : World} {o o' : Nat → Nat} (s : Step I w o w' o') (h0 : ∀ k, k < w.heap.size → ¬ I (o k)) : Below w.heap.size w w' := s.below h0
theorem below_drew {B : Nat} {a w : World} (h : Below B a w) (n : Nat) : Below B a (w.drewN n) := ⟨h.os, h.tape, h.output, h.size, h.block⟩

/-- An argument that is a slice of numbers, only read. -/
def Arg (w : World) (ao : Option Addr) (len : Nat) (z : Nat → Int) : Prop :=
  ∀ j, j < len → ∃ b off, ao = some ⟨b, off, none⟩ ∧ b < w.heap.size ∧ w.cell? ⟨b, off + j, none⟩ = some (.int .i64 (z j)) ∧ -9223372036854775808 ≤ z j ∧ z j ≤ 9223372036854775807
theorem Arg.below {w w' : World} {ao : Option Addr} {len : Nat} {z : Nat → Int} (h : Arg w ao len z) (hb : Below w.heap.size w w') : Arg w' ao len z := by
  intro j hj
  obtain ⟨b, off, h1, h2, h3, h4⟩ := h j hj
  exact ⟨b, off, h1, Nat.lt_of_lt_of_le h2 hb.size, (hb.cell (p := ⟨b, off + j, none⟩) h2).trans h3, h4⟩
/-- All labels from one on. -/
def Pos (k : Nat) : Prop := 0 < k
/-- The labels at the start of a law: all that was there has label nought. -/
def o0 : Nat → Nat := fun _ => 0
theorem Step.old {w w' : World} {o' : Nat → Nat} (s : Step Pos w o0 w' o') : Below w.heap.size w w' := s.below (fun k _ => by simp [Pos, o0])

/-- A slice of handles, only read: its block lies under label i. -/
def Vw (w : World) (o : Nat → Nat) (i : Nat) (v : Value) (xs : List Nat) : Prop :=
  ∃ ao cap, v = .slice ao xs.length cap ∧ xs.length ≤ cap ∧ cap ≤ maxLen ∧ (0 < xs.length → ∃ g off, ao = some ⟨g, off, none⟩ ∧ o g = i ∧ g < w.heap.size ∧ ∀ j (hj : j < xs.length), w.cell? ⟨g, off + j, none⟩ = some (.int .i64 (xs[j] : Nat)))
theorem Vw.step {I : Nat → Prop} {w w' : World} {o o' : Nat → Nat} {i : Nat} {v : Value} {xs : List Nat} (h : Vw w o i v xs) (s : Step I w o w' o') (hi : ¬ I i) : Vw w' o' i v xs := by
  obtain ⟨ao, cap, rfl, hc, hm, hp⟩ := h
  refine ⟨ao, cap, rfl, hc, hm, fun h0 => ?_⟩
  obtain ⟨g, off, h1, h2, h3, h4⟩ := hp h0
  refine ⟨g, off, h1, (s.lab g h3).trans h2, Nat.lt_of_lt_of_le h3 s.size, fun j hj => ?_⟩
  rw [← h4 j hj]
  unfold World.cell?
  show (match w'.heap[g]? with | _ => _) = (match w.heap[g]? with | _ => _)
  rw [s.block g h3 (by rw [h2]; exact hi)]
theorem Row.vw {w : World} {o : Nat → Nat} {i : Nat} {v : Value} {xs : List Nat} (h : Row w o i 3 1 v xs.length (intsL xs)) : Vw w o i v xs := by
  by_cases h0 : 0 < xs.length
  · obtain ⟨g, cap, rfl, hg, hc, hm, hlt, hcell, hfr⟩ := h.pos h0
    refine ⟨_, cap, rfl, hc, hm, fun _ => ⟨g, 0, rfl, hg, hlt, fun j hj => ?_⟩⟩
    rw [Nat.zero_add, hcell j (by omega), intsL_get xs j hj]
  · rcases h.1.2 with ⟨rfl, _⟩ | ⟨g, cap, cur, rfl, _, _, hc, hm, _⟩
    · exact ⟨none, 0, by rw [show xs.length = 0 by omega], by omega, by unfold maxLen; omega, fun h => absurd h h0⟩
    · exact ⟨_, cap, rfl, hc, hm, fun h => absurd h h0⟩

theorem Step.pos0 {w w' : World} {o o' : Nat → Nat} (s : Step (fun _ => False) w o w' o') : Step Pos w o w' o' := s.mono fun k hk => hk.elim

theorem Step.cell {I : Nat → Prop} {w w' : World} {o o' : Nat → Nat} (s : Step I w o w' o') {g : Nat} (hg : g < w.heap.size) (hi : ¬ I (o g)) (j : Nat) : w'.cell? ⟨g, j, none⟩ = w.cell? ⟨g, j, none⟩ := by
  unfold World.cell?
  show (match w'.heap[g]? with | _ => _) = (match w.heap[g]? with | _ => _)
  rw [s.block g hg hi]
theorem intsL_append (a b : List Nat) : intsL (a ++ b) = intsL a ++ intsL b := by simp [intsL]

end Go.Proofs.Ytffmlffhiimmdaa
