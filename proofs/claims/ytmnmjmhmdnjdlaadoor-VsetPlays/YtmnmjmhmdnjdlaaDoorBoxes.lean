/- Sets in boxes; a set and all others. -/
import Derived.Test.YtmnmjmhmdnjdlaaDoorAwake9
namespace Go.Proofs.YtmnmjmhmdnjdlaaDoor
open Go.ChangeShapes Go.WideShapes Go.ChangeAt Go.RowKit Go.Maps
set_option linter.unusedVariables false

/-- The box p holds the set x. -/
def Box (w : World) (p x : Nat) : Prop := w.cell? ⟨p, 0, none⟩ = some (.int .u64 (x : Nat)) ∧ p < w.heap.size
theorem Box.below {w w' : World} {p x : Nat} (h : Box w p x) (b : Below w.heap.size w w') : Box w' p x := ⟨(b.cell (p := ⟨p, 0, none⟩) h.2).trans h.1, Nat.lt_of_lt_of_le h.2 b.size⟩
theorem Box.new (w : World) (x : Nat) (t : TypeId) : Box (w.alloc (.cells #[.int .u64 (x : Nat)] t)) w.heap.size x := ⟨box_cell _ _ _, by simp⟩
theorem Box.drew {w : World} {p x : Nat} (h : Box w p x) : Box w.drew p x := h

theorem hid_and {A B : Prop} (ha : A) (hb : B) : Hid (A ∧ B) := ⟨ha, hb⟩
abbrev fu : Nat := 18446744073709551615
theorem fu_lt : fu < top64 := by decide
theorem fu_bit (i : Nat) : fu.testBit i = decide (i < 64) := by
  show (2 ^ 64 - 1).testBit i = _
  exact Nat.testBit_two_pow_sub_one 64 i
theorem fu_cd : cd fu = 64 := by decide +kernel
theorem oth_bit (s : Nat) (hs : s < top64) (i : Nat) (hi : i < 64) : (mns fu s).testBit i = !s.testBit i := by
  rw [mns_bit' _ _ fu_lt hs, fu_bit, decide_eq_true hi]; simp
theorem oth_or (s : Nat) (hs : s < top64) : s ||| mns fu s = fu := ext64 (or_lt hs (mns_lt fu_lt)) fu_lt fun i hi => by
  rw [Nat.testBit_or, oth_bit s hs i hi, fu_bit, decide_eq_true hi]; simp
theorem oth_and (s : Nat) (hs : s < top64) : s &&& mns fu s = 0 := ext64 (and_lt hs) (by decide) fun i hi => by
  rw [Nat.testBit_and, oth_bit s hs i hi, Nat.zero_testBit]; simp
theorem oth_oth (s : Nat) (hs : s < top64) : mns fu (mns fu s) = s := ext64 (mns_lt fu_lt) hs fun i hi => by
  rw [oth_bit _ (mns_lt fu_lt) i hi, oth_bit s hs i hi]; simp
theorem oth_with (s m : Nat) (hs : s < top64) (hm : m < 64) : mns fu (s ||| bt m) = mns (mns fu s) (bt m) := ext64 (mns_lt fu_lt) (mns_lt (mns_lt fu_lt)) fun i hi => by
  rw [oth_bit _ (or_lt hs (bt_lt hm)) i hi, mns_bit' _ _ (mns_lt fu_lt) (bt_lt hm), oth_bit s hs i hi, Nat.testBit_or]; simp
theorem oth_cd (s : Nat) (hs : s < top64) : cd s + cd (mns fu s) = 64 := by
  have h := cd_both s (mns fu s)
  rw [oth_or s hs, oth_and s hs, fu_cd, show cd 0 = 0 from by decide +kernel] at h
  omega
/-- 63, 62 .. : k numbers. -/
def downL : Nat → List Nat
  | 0 => []
  | k + 1 => downL k ++ [63 - k]
theorem downL_len : ∀ k, (downL k).length = k
  | 0 => rfl
  | k + 1 => by unfold downL; rw [List.length_append, downL_len k]; rfl
theorem downL_mem (i : Nat) : ∀ k, i ∈ downL k ↔ ∃ j, j < k ∧ 63 - j = i
  | 0 => by simp [downL]
  | k + 1 => by
    unfold downL
    rw [List.mem_append, downL_mem i k, List.mem_singleton]
    constructor
    · rintro (⟨j, h1, h2⟩ | h)
      · exact ⟨j, by omega, h2⟩
      · exact ⟨k, by omega, h.symm⟩
    · rintro ⟨j, h1, h2⟩
      by_cases e : j = k
      · subst e; exact .inr h2.symm
      · exact .inl ⟨j, by omega, h2⟩
theorem getD_mem (l : List Nat) (j : Nat) (hj : j < l.length) : l.getD j 0 ∈ l := by simp [List.getD, List.getElem?_eq_getElem hj]
/-- What Of answers for a list of numbers that all may be. -/
theorem OfOut.list {l : List Nat} (hl : ∀ x, x ∈ l → x < 64) {s : Nat} {er : Int} (h : OfOut (fun j => (l.getD j 0 : Nat)) l.length s er) : er = 0 ∧ s < top64 ∧ ∀ i, s.testBit i = true ↔ i ∈ l := by
  rcases h with ⟨h1, h2, h3⟩ | ⟨h1, h2, j, hj, h3⟩
  · refine ⟨h1, h3 ▸ ofs_lt _ _ h2, fun i => ?_⟩
    rw [h3, ofs_bit]
    constructor
    · rintro ⟨j, hj, e⟩
      have := getD_mem l j hj
      simp only [Int.toNat_natCast] at e
      rw [e] at this
      exact this
    · intro hm
      obtain ⟨j, hj, e⟩ := List.getElem_of_mem hm
      exact ⟨j, hj, by simp [List.getD, List.getElem?_eq_getElem hj, e]⟩
  · have h4 := hl _ (getD_mem l j hj)
    have h5 : ((l.getD j 0 : Nat) : Int) < 0 ∨ 63 < ((l.getD j 0 : Nat) : Int) := h3
    omega
theorem downL_full {s : Nat} (hs : s < top64) (h : ∀ i, s.testBit i = true ↔ i ∈ downL 64) : s = fu := ext64 hs fu_lt fun i hi => by
  rw [fu_bit, decide_eq_true hi, h i, downL_mem]
  exact ⟨63 - i, by omega, by omega⟩
end Go.Proofs.YtmnmjmhmdnjdlaaDoor
