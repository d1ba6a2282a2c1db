/- What the laws share: the chapter's first example, which of n things a number speaks of, lists that are only read. -/
import Derived.Test.YthdmajddmajjoaaJoin
import Derived.Test.YthdmajddmajjoaaFlag
import Derived.Test.YthdmajddmajjoaaAt
import Derived.Test.YthdmajddmajjoaaAllF
namespace Go.Proofs.Ythdmajddmajjoaa
open Go.ChangeShapes Go.WideShapes Go.ChangeAt Go.RowKit
set_option linter.unusedVariables false

theorem Step.ofBelow {I : Nat → Prop} {w w' : World} (o : Nat → Nat) (h : Below w.heap.size w w') : Step I w o w' o := ⟨h.os, h.tape, h.output, h.size, fun _ _ => rfl, fun k hk _ => h.block k hk⟩
theorem Step.toBelow {I : Nat → Prop} {w w' : World} {o o' : Nat → Nat} (s : Step I w o w' o') (h0 : ∀ k, k < w.heap.size → ¬ I (o k)) : Below w.heap.size w w' := s.below h0
theorem below_drew {B : Nat} {a w : World} (h : Below B a w) (n : Nat) : Below B a (w.drewN n) := ⟨h.os, h.tape, h.output, h.size, h.block⟩

/-- An argument that is a slice of numbers, only read. -/
def Arg (w : World) (ao : Option Addr) (len : Nat) (z : Nat → Int) : Prop :=
  ∀ j, j < len → ∃ b off, ao = some ⟨b, off, none⟩ ∧ b < w.heap.size ∧ w.cell? ⟨b, off + j, none⟩ = some (.int .i64 (z j)) ∧ -9223372036854775808 ≤ z j ∧ z j ≤ 9223372036854775807
theorem Arg.below {w w' : World} {ao : Option Addr} {len : Nat} {z : Nat → Int} (h : Arg w ao len z) (hb : Below w.heap.size w w') : Arg w' ao len z := by
  intro j hj
  obtain ⟨b, off, h1, h2, h3, h4⟩ := h j hj
  exact ⟨b, off, h1, Nat.lt_of_lt_of_le h2 hb.size, (hb.cell (p := ⟨b, off + j, none⟩) h2).trans h3, h4⟩
/-- All labels from one on. -/
def Pos (k : Nat) : Prop := 0 < k
/-- The labels at the start of a law: all that was there has label nought. -/
def o0 : Nat → Nat := fun _ => 0
theorem Step.old {w w' : World} {o' : Nat → Nat} (s : Step Pos w o0 w' o') : Below w.heap.size w w' := s.below (fun k _ => by simp [Pos, o0])

/-- A slice of handles, only read: its block lies under label i. -/
def Vw (w : World) (o : Nat → Nat) (i : Nat) (v : Value) (xs : List Nat) : Prop :=
  ∃ ao cap, v = .slice ao xs.length cap ∧ xs.length ≤ cap ∧ cap ≤ maxLen ∧ (0 < xs.length → ∃ g off, ao = some ⟨g, off, none⟩ ∧ o g = i ∧ g < w.heap.size ∧ ∀ j (hj : j < xs.length), w.cell? ⟨g, off + j, none⟩ = some (.int .i64 (xs[j] : Nat)))
theorem Vw.step {I : Nat → Prop} {w w' : World} {o o' : Nat → Nat} {i : Nat} {v : Value} {xs : List Nat} (h : Vw w o i v xs) (s : Step I w o w' o') (hi : ¬ I i) : Vw w' o' i v xs := by
  obtain ⟨ao, cap, rfl, hc, hm, hp⟩ := h
  refine ⟨ao, cap, rfl, hc, hm, fun h0 => ?_⟩
  obtain ⟨g, off, h1, h2, h3, h4⟩ := hp h0
  refine ⟨g, off, h1, (s.lab g h3).trans h2, Nat.lt_of_lt_of_le h3 s.size, fun j hj => ?_⟩
  rw [← h4 j hj]
  unfold World.cell?
  show (match w'.heap[g]? with | _ => _) = (match w.heap[g]? with | _ => _)
  rw [s.block g h3 (by rw [h2]; exact hi)]
theorem Row.vw {w : World} {o : Nat → Nat} {i : Nat} {v : Value} {xs : List Nat} (h : Row w o i 3 1 v xs.length (intsL xs)) : Vw w o i v xs := by
  by_cases h0 : 0 < xs.length
  · obtain ⟨g, cap, rfl, hg, hc, hm, hlt, hcell, hfr⟩ := h.pos h0
    refine ⟨_, cap, rfl, hc, hm, fun _ => ⟨g, 0, rfl, hg, hlt, fun j hj => ?_⟩⟩
    rw [Nat.zero_add, hcell j (by omega), intsL_get xs j hj]
  · rcases h.1.2 with ⟨rfl, _⟩ | ⟨g, cap, cur, rfl, _, _, hc, hm, _⟩
    · exact ⟨none, 0, by rw [show xs.length = 0 by omega], by omega, by unfold maxLen; omega, fun h => absurd h h0⟩
    · exact ⟨_, cap, rfl, hc, hm, fun h => absurd h h0⟩

theorem same_true (w : World) (o o2 : Nat → Nat) (i j : Nat) (va vb : Value) (xs : List Nat) (ha : Vw w o i va xs) (hb : Vw w o2 j vb xs) (hl : xs.length ≤ 4096) :
    Calls Try.prog 36 #[va, vb] w fun e w' => e = .returned (.bool true) ∧ ∃ m, w' = w.drewN m := by
  obtain ⟨aa, ca, rfl, hca, hma, hpa⟩ := ha
  obtain ⟨ab, cb, rfl, hcb, hmb, hpb⟩ := hb
  unfold maxLen at hma hmb
  go_enter Try.func36, Try.ntmps36
  go_wp2
  go_loopw [5] (fun v wr => ∃ k : Nat, k ≤ xs.length ∧ v = .int .i64 (k : Nat) ∧ ∃ m, wr = w.drewN m) (fun v _ => xs.length - (intOf v).toNat)
  case atStart => exact ⟨0, by omega, by go_num, 0, rfl⟩
  case round =>
    obtain ⟨k, hk, rfl, m, rfl⟩ := hrel
    by_cases hlt : k < xs.length
    · obtain ⟨ga, fa, rfl, _, _, hcella⟩ := hpa (by omega)
      obtain ⟨gb, fb, rfl, _, _, hcellb⟩ := hpb (by omega)
      have c1 := hcella k hlt
      have c2 := hcellb k hlt
      obtain ⟨x, hx⟩ : ∃ x, x = xs[k] := ⟨_, rfl⟩
      rw [← hx] at c1 c2
      clear hpa hpb hcella hcellb hx
      go_wp2
      go_quiet (fail)
      go_wp2
      go_roundw
      case rel => (try ((repeat apply Exists.intro); refine ⟨?_, rfl⟩)); exact ⟨k + 1, by omega, by go_num, _, rfl⟩
      case measure => simp [intOf]; omega
    · obtain rfl : k = xs.length := by omega
      clear hpa hpb
      go_wp2
      go_ret
      exact ⟨rfl, m, rfl⟩

theorem Step.posF {w w' : World} {o o' : Nat → Nat} {L : Nat} (s : Step (FL L) w o w' o') (h : 0 < L) : Step Pos w o w' o' := s.mono fun k hk => Nat.lt_of_lt_of_le h hk.1
theorem Step.pos0 {w w' : World} {o o' : Nat → Nat} (s : Step (fun _ => False) w o w' o') : Step Pos w o w' o' := s.mono fun k hk => hk.elim

set_option maxRecDepth 100000 in
set_option maxHeartbeats 2000000 in
theorem awake_any (w : World) : Calls Try.prog 4 #[] w fun e w' => e = .returned (.bool true) ∧ Below w.heap.size w w' := by
  have m1 : It.may ⟨5, true, 1⟩ := ⟨by decide, by decide, by decide⟩
  have m2 : It.may ⟨7, false, 2⟩ := ⟨by decide, by decide, by decide⟩
  have m3 : It.may ⟨-3, true, 0⟩ := ⟨by decide, by decide, by decide⟩
  go_enter Try.func4, Try.ntmps4
  go_wp2_with fail
  refine (newF w o0 1 3 (fun _ => ⟨0, false, 0⟩) (fun _ => []) (by omega)).mono ?_
  rintro e w1 ⟨p, rfl, o1, F1, S1⟩
  have b1 := S1.pos0
  clear S1
  go_wp2_with fail
  refine (makePushF w1 o1 1 p 3 0 _ _ ⟨5, true, 1⟩ F1 m1 (by omega)).mono ?_
  rintro e w2 ⟨rfl, o2, F2, S2⟩
  have b2 := b1.trans (S2.posF (by omega))
  clear F1 S2 b1
  go_wp2_with fail
  refine (makePushF w2 o2 1 p 3 1 _ _ ⟨7, false, 2⟩ F2 m2 (by omega)).mono ?_
  rintro e w3 ⟨rfl, o3, F3, S3⟩
  have b3 := b2.trans (S3.posF (by omega))
  clear F2 S3 b2
  go_wp2_with fail
  refine (makePushF w3 o3 1 p 3 2 _ _ ⟨-3, true, 0⟩ F3 m3 (by omega)).mono ?_
  rintro e w4 ⟨rfl, o4, F4, S4⟩
  have b4 := b3.trans (S4.posF (by omega))
  clear F3 S4 b3 m1 m2 m3
  have l1 : Live 3 [] 1 := ⟨by omega, by omega, by simp⟩
  have l2 : Live 3 [] 2 := ⟨by omega, by omega, by simp⟩
  have l3 : Live 3 [] 3 := ⟨by omega, by omega, by simp⟩
  go_wp2_with fail
  refine (joinInF w4 o4 1 p 3 3 [] _ _ 1 2 F4 l1 l2 (by decide)).mono ?_
  rintro e w5 ⟨rfl, o5, F5, S5⟩
  have b5 := b4.trans (S5.posF (by omega))
  clear F4 S5 b4
  go_wp2_with fail
  refine (joinInF w5 o5 1 p 3 3 [] _ _ 2 3 F5 l2 l3 (by decide)).mono ?_
  rintro e w6 ⟨rfl, o6, F6, S6⟩
  have b6 := b5.trans (S6.posF (by omega))
  clear F5 S6 b5
  go_wp2_with fail
  refine (sumInF w6 o6 1 p 3 3 [] _ _ 2 F6 l2).mono ?_
  rintro e w7 ⟨he, o7, F7, S7⟩
  have hs : e = .returned (.tuple #[aggV ⟨2, 2, -3, 5, 3⟩, .int .i64 0]) := he.trans rfl
  subst hs
  have b7 := b6.trans (S7.posF (by omega))
  clear F6 S7 b6 he
  unfold aggV
  have n8 := newStep (fun _ => False) w7 o7 3000 (.cells #[.int .i64 2, .int .i64 2, .int .i64 (-3), .int .i64 5, .int .i64 3] 45)
  have B8 : Blk (w7.alloc (.cells #[.int .i64 2, .int .i64 2, .int .i64 (-3), .int .i64 5, .int .i64 3] 45)) (newLab w7 o7 3000) 3000 w7.heap.size (.cells #[.int .i64 2, .int .i64 2, .int .i64 (-3), .int .i64 5, .int .i64 3] 45 (0, 0)) := ⟨heap_alloc_new w7 _, newLab_new (Nat.le_refl _)⟩
  have F8 := F7.quiet n8
  have b8 := b7.trans n8.pos0
  have nF : ¬ FL 1 3000 := fun h => by have := h.2; omega
  clear F7 b7 n8
  go_wp2_with fail
  refine (rankInF _ _ 1 p 3 3 [] _ _ 3 [1, 2] [] F8 l3 rfl).mono ?_
  rintro e w9 ⟨rfl, o9, F9, S9⟩
  have b9 := b8.trans (S9.posF (by omega))
  have B9 := B8.step S9 nF
  clear F8 b8 S9 B8
  go_wp2_with fail
  refine (flagInF _ _ 1 p 3 3 [] _ _ 1 6 2 [1] [3] F9 l1 (by omega) rfl (by decide) (by decide)).mono ?_
  rintro e w10 ⟨rfl, o10, F10, S10⟩
  have b10 := (b9.trans (S10.posF (by omega))).old
  obtain ⟨c0, c1, c2, c3, c4, hf⟩ := (B9.step S10 nF).cells5
  clear F9 b9 S10 B9 F10
  go_wp2
  go_ret
  exact ⟨ret_bool (by simp), b10⟩

end Go.Proofs.Ythdmajddmajjoaa
