/- The numbers of a set, rising. No program. -/
import Derived.Test.YtmpkhbblakfglaaDoorOfC
namespace Go.Proofs.YtmpkhbblakfglaaDoor
open Go.ChangeShapes Go.WideShapes Go.ChangeAt Go.RowKit
set_option linter.unusedVariables false

theorem pow_mul_bit (c m i : Nat) : (2 ^ c * (2 * m + 1)).testBit i = (decide (c ≤ i) && (2 * m + 1).testBit (i - c)) := by
  rw [Nat.testBit_two_pow_mul]
theorem ctz_bit (z : Nat) (h0 : z ≠ 0) (hz : z < top64) : z.testBit (Lib.ctz 64 z) = true ∧ (∀ i, i < Lib.ctz 64 z → z.testBit i = false) ∧ Lib.ctz 64 z < 64 := by
  obtain ⟨m, h1, h2⟩ := Lib.ctzFrom_spec 64 z (by omega) hz
  have e : Lib.ctz 64 z = Lib.ctzFrom 64 z := by unfold Lib.ctz; rw [if_neg h0]
  rw [e]
  generalize Lib.ctzFrom 64 z = c at *
  subst h1
  refine ⟨?_, fun i hi => ?_, h2⟩
  · rw [pow_mul_bit]; simp
  · rw [pow_mul_bit, decide_eq_false (by omega)]; rfl

/-- The next number that is there. -/
def nx (x : Nat) (n : Int) : Int := fst9 (mns x (blw n))
theorem nx_spec (x : Nat) (n : Int) (hx : x < top64) :
    (nx x n = -1 ∧ ∀ i : Nat, n ≤ i → x.testBit i = false) ∨ ∃ k : Nat, nx x n = k ∧ k < 64 ∧ n ≤ k ∧ x.testBit k = true ∧ ∀ i : Nat, n ≤ i → i < k → x.testBit i = false := by
  have hb : ∀ i, i < 64 → (mns x (blw n)).testBit i = (x.testBit i && !decide ((i : Int) < n)) := fun i hi => by rw [mns_bit' x _ hx (blw_lt n), blw_bit n i hi]
  unfold nx fst9
  by_cases h0 : mns x (blw n) = 0
  · refine .inl ⟨by rw [if_pos h0], fun i hi => ?_⟩
    cases hxi : x.testBit i
    · rfl
    · have hi64 := bit_lt hx hxi
      have := hb i hi64
      rw [h0, Nat.zero_testBit, hxi, decide_eq_false (by omega)] at this
      cases this
  · rw [if_neg h0]
    obtain ⟨h1, h2, h3⟩ := ctz_bit _ h0 (mns_lt hx)
    refine .inr ⟨_, rfl, h3, ?_, ?_, fun i hi hk => ?_⟩
    · rw [hb _ h3] at h1
      simp at h1
      omega
    · rw [hb _ h3] at h1
      simp at h1
      exact h1.1
    · have := h2 i hk
      rw [hb i (by omega), decide_eq_false (by omega)] at this
      simpa using this

/-- The numbers of x from lo on. -/
def els (x lo : Nat) : List Nat := (List.range' lo (64 - lo)).filter (fun i => x.testBit i)
theorem els_top (x lo : Nat) (h : 64 ≤ lo) : els x lo = [] := by unfold els; rw [show 64 - lo = 0 by omega]; rfl
theorem els_step (x lo : Nat) (h : lo < 64) : els x lo = if x.testBit lo then lo :: els x (lo + 1) else els x (lo + 1) := by
  unfold els
  rw [show 64 - lo = (64 - (lo + 1)) + 1 by omega, List.range'_succ, List.filter_cons]
theorem els_skip (x lo : Nat) : ∀ d, lo + d ≤ 64 → (∀ i, lo ≤ i → i < lo + d → x.testBit i = false) → els x lo = els x (lo + d)
  | 0, _, _ => rfl
  | d + 1, h1, h2 => by
    rw [els_skip x lo d (by omega) (fun i h3 h4 => h2 i h3 (by omega)), els_step x (lo + d) (by omega), h2 (lo + d) (by omega) (by omega)]
    rfl
theorem els_mem (x lo i : Nat) : i ∈ els x lo ↔ lo ≤ i ∧ i < 64 ∧ x.testBit i = true := by
  unfold els
  rw [List.mem_filter, List.mem_range'_1]
  by_cases h : lo ≤ 64
  · constructor
    · rintro ⟨⟨h1, h2⟩, h3⟩; exact ⟨h1, by omega, h3⟩
    · rintro ⟨h1, h2, h3⟩; exact ⟨⟨h1, by omega⟩, h3⟩
  · constructor
    · rintro ⟨⟨h1, h2⟩, h3⟩; omega
    · rintro ⟨h1, h2, h3⟩; omega
def al (x : Nat) : List Nat := els x 0
theorem al_mem (x i : Nat) (hx : x < top64) : i ∈ al x ↔ x.testBit i = true := by
  unfold al
  rw [els_mem]
  exact ⟨fun h => h.2.2, fun h => ⟨by omega, bit_lt hx h, h⟩⟩
theorem al_len (x : Nat) : (al x).length = cd x := by
  have key : ∀ n, n ≤ 64 → (List.filter (fun i => x.testBit i) (List.range n)).length = cdn x n := by
    intro n
    induction n with
    | zero => intro _; rfl
    | succ n ih =>
      intro hn
      rw [List.range_succ, List.filter_append, List.length_append, ih (by omega)]
      show _ = cdn x n + _
      cases h : x.testBit n <;> simp [h]
  unfold al els cd
  rw [← key 64 (by omega), List.range_eq_range']
theorem al_len_le (x : Nat) : (al x).length ≤ 64 := by rw [al_len]; exact cd_le x
theorem al_inj {x y : Nat} (hx : x < top64) (hy : y < top64) (h : al x = al y) : x = y := ext64 hx hy fun i _ => by
  have h1 := al_mem x i hx
  have h2 := al_mem y i hy
  rw [h] at h1
  exact Bool.eq_iff_iff.2 (h1.symm.trans h2)
theorem els_nodup (x lo : Nat) : (els x lo).Nodup := List.Nodup.sublist List.filter_sublist List.nodup_range'
theorem els_sorted (x lo : Nat) : (els x lo).Pairwise (· < ·) := List.Pairwise.sublist List.filter_sublist List.pairwise_lt_range'
end Go.Proofs.YtmpkhbblakfglaaDoor
