/- Picks as numbers, edges in a slice, cut and appended. -/
import Derived.Test.YtddjaldamfileaaStandsM
import Derived.Test.YtddjaldamfileaaOpsArg5
import Derived.Test.YtddjaldamfileaaApp
namespace Go.Proofs.Ytddjaldamfileaa
open Go.ChangeShapes Go.WideShapes Go.ChangeAt Go.RowKit Go.Maps
set_option linter.unusedVariables false

theorem Blk.cells6 {w : World} {o : Nat → Nat} {i b : Nat} {a0 a1 a2 a3 a4 a5 : Value} {t : TypeId} (h : Blk w o i b (.cells #[a0, a1, a2, a3, a4, a5] t (0, 0))) :
    (w.cell? ⟨b, 0, none⟩ = some a0 ∧ w.cell? ⟨b, 1, none⟩ = some a1 ∧ w.cell? ⟨b, 2, none⟩ = some a2 ∧ w.cell? ⟨b, 3, none⟩ = some a3 ∧ w.cell? ⟨b, 4, none⟩ = some a4 ∧ w.cell? ⟨b, 5, none⟩ = some a5) ∧ ∀ j, w.frozen? ⟨b, j, none⟩ = false := by
  refine ⟨⟨?_, ?_, ?_, ?_, ?_, ?_⟩, fun j => frozen_of_row w b j _ t h.1⟩ <;> simp [cell_of_row w b _ _ t (0, 0) h.1]
theorem Tx.mono {w : World} {o : Nat → Nat} {L p n : Nat} {ed : Nat → Option Ed} {R : Nat → List Nat} {m m' : Nat} (h : Tx w o L p n ed R m) (hm : m ≤ m') : Tx w o L p n ed R m' := by
  obtain ⟨h0, pt, bv, cap, bm, ⟨h1, h2, D, d1, d2, d3, d4⟩, h3⟩ := h
  exact ⟨h0, pt, bv, cap, bm, ⟨h1, h2, D, d1, by omega, d3, d4⟩, h3⟩
set_option maxRecDepth 100000
/-- Which one a raw number speaks of. -/
def pkN (c : Int) (n : Nat) : Nat := if c < 0 then ((-(c + 1)) % (n : Int)).toNat else (c % (n : Int)).toNat
theorem pkN_lt (c : Int) (n : Nat) (hn : 0 < n) : pkN c n < n := by
  unfold pkN
  split
  · have e2 := Int.emod_nonneg (-(c + 1)) (show (n : Int) ≠ 0 by omega)
    have e3 := Int.emod_lt_of_pos (-(c + 1)) (show (0 : Int) < n by omega)
    omega
  · have e2 := Int.emod_nonneg c (show (n : Int) ≠ 0 by omega)
    have e3 := Int.emod_lt_of_pos c (show (0 : Int) < n by omega)
    omega
theorem pick_is (c : Int) (n : Nat) (w : World) (h1 : -9223372036854775808 ≤ c) (h2 : c ≤ 9223372036854775807) (hn : 0 < n) (hn2 : n ≤ 9223372036854775807) :
    Calls Try.prog 12 #[.int .i64 c, .int .i64 n] w fun e w' => e = .returned (.int .i64 (pkN c n)) ∧ w' = w := by
  have hz : ((n : Int) == 0) = false := by simp only [beq_eq_false_iff_ne, ne_eq]; omega
  have hm1 : ((n : Int) == -1) = false := by simp only [beq_eq_false_iff_ne, ne_eq]; omega
  by_cases hc : c < 0
  · have hp : pkN c n = ((-(c + 1)) % (n : Int)).toNat := by unfold pkN; rw [if_pos hc]
    rw [hp]
    clear hp
    go_enter Try.func12, Try.ntmps12
    go_wp2
    go_ret
    have e1 : (-((c + 1).tmod n) : Int) = (-(c + 1)) % n := by rw [← Int.neg_tmod, Int.tmod_eq_emod_of_nonneg (by omega)]
    have e2 := Int.emod_nonneg (-(c + 1)) (show (n : Int) ≠ 0 by omega)
    have e3 := Int.emod_lt_of_pos (-(c + 1)) (show (0 : Int) < n by omega)
    exact ⟨ret_int (by omega), rfl⟩
  · have hp : pkN c n = (c % (n : Int)).toNat := by unfold pkN; rw [if_neg hc]
    rw [hp]
    clear hp
    go_enter Try.func12, Try.ntmps12
    go_wp2
    go_ret
    have e1 : (c.tmod n : Int) = c % n := Int.tmod_eq_emod_of_nonneg (by omega)
    have e2 := Int.emod_nonneg c (show (n : Int) ≠ 0 by omega)
    have e3 := Int.emod_lt_of_pos c (show (0 : Int) < n by omega)
    exact ⟨ret_int (by omega), rfl⟩

theorem elv_append (l m : List (Nat × Ed)) : elv (l ++ m) = elv l ++ elv m := by simp [elv]
theorem elv_one (l : List (Nat × Ed)) : ∀ u ∈ elv l, u.oneCell' = true := fun u hu => by
  obtain ⟨s, _, hs⟩ := List.mem_flatMap.1 hu
  simp [ev] at hs
  rcases hs with rfl | rfl | rfl | rfl <;> rfl
theorem elv_cells {w : World} {o : Nat → Nat} {i g cap : Nat} {l : List (Nat × Ed)} (r m : Nat) (h : Row w o i 42 4 (.slice (some ⟨g, 0, none⟩) l.length cap) l.length (elv l)) : ∀ j u, (elv ((l.drop r).take m))[j]? = some u → w.cell? ((⟨g, r * 4, none⟩ : Addr).add j) = some u := fun j u hj => by
  have hjl := (List.getElem?_eq_some_iff.1 hj).1
  rw [elv_len, List.length_take, List.length_drop] at hjl
  obtain ⟨g', cap', hv', _, _, _, _, hcell', _⟩ := h.pos (by omega)
  simp only [Value.slice.injEq, Option.some.injEq, Addr.mk.injEq, and_true, true_and] at hv'
  obtain ⟨rfl, _⟩ := hv'
  have e : l = l.take r ++ ((l.drop r).take m ++ (l.drop r).drop m) := by rw [List.take_append_drop, List.take_append_drop]
  have hx : (elv l)[r * 4 + j]? = some u := by
    rw [e, elv_append, elv_append, List.getElem?_append_right (by rw [elv_len, List.length_take]; omega), elv_len, List.length_take, Nat.min_eq_left (by omega), show r * 4 + j - r * 4 = j by omega, List.getElem?_append_left (List.getElem?_eq_some_iff.1 hj).1]
    exact hj
  have := hcell' (r * 4 + j) (by omega)
  rw [hx] at this
  unfold Addr.add
  by_cases j0 : j = 0
  · subst j0; simpa using this
  · simpa [j0] using this

end Go.Proofs.Ytddjaldamfileaa
