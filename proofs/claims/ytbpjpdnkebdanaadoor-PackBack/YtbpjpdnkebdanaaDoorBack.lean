/- Plain arithmetic of sevens of bits, backward: what was read is what is laid, and a byte less is too short. -/
import Derived.Test.YtbpjpdnkebdanaaDoorSev
namespace Go.Proofs.YtbpjpdnkebdanaaDoor
open Go.RowKit

theorem tk_err (l : List UInt8) : ∀ (i acc : Nat), (tk l i acc).2.2 = 0 ∨ tk l i acc = (0, 0, 10) ∨ tk l i acc = (0, 0, 11) := by
  induction l with
  | nil => intro i acc; right; left; rfl
  | cons c t ih =>
    intro i acc
    rw [tk]
    split
    · right; right; rfl
    · split
      · exact ih _ _
      · split
        · right; right; rfl
        · left; rfl

theorem ofNat_more (c : UInt8) (h : 128 ≤ c.toNat) (r : Nat) (hr : r % 128 = c.toNat % 128) : UInt8.ofNat (r % 128 + 128) = c := by
  have hc : c.toNat < 256 := UInt8.toNat_lt c
  apply UInt8.toNat_inj.1
  rw [UInt8.toNat_ofNat']
  omega
theorem ofNat_self (c : UInt8) : UInt8.ofNat c.toNat = c := by
  apply UInt8.toNat_inj.1
  rw [UInt8.toNat_ofNat']
  have hc : c.toNat < 256 := UInt8.toNat_lt c
  omega

/-- What is read at place i, with what stands so far, is what is laid of what it adds. -/
theorem tk_back (l : List UInt8) : ∀ (i acc n k : Nat), i ≤ 9 → tk l i acc = (n, k, 0) →
    ∃ r j, k = i + j ∧ 1 ≤ j ∧ j ≤ l.length ∧ i + j ≤ 10 ∧ n = acc + r * 128 ^ i ∧ sev (9 - i) r = l.take j ∧ r < 2 * 128 ^ (9 - i) ∧ (0 < i → r ≠ 0) ∧ tk (l.take (j - 1)) i acc = (0, 0, 10) := by
  induction l with
  | nil => intro i acc n k _ h; simp [tk] at h
  | cons c t ih =>
    intro i acc n k hi h
    have hc : c.toNat < 256 := UInt8.toNat_lt c
    by_cases hF : i = 9 ∧ 1 < c.toNat
    · rw [tkF _ _ _ _ hF.1 hF.2] at h
      simp at h
    · by_cases hM : 128 ≤ c.toNat
      · have hi8 : i ≤ 8 := by omega
        rw [tkM _ _ _ _ (by omega) hM] at h
        obtain ⟨r', j', hk, hj1, hj2, hj3, hn, hs, hr, hz, hshort⟩ := ih (i + 1) _ n k (by omega) h
        have hz' := hz (by omega)
        have hm : (c.toNat % 128 + r' * 128) % 128 = c.toNat % 128 := by omega
        have hd : (c.toNat % 128 + r' * 128) / 128 = r' := by omega
        have h9 : 9 - i = (9 - (i + 1)) + 1 := by omega
        refine ⟨c.toNat % 128 + r' * 128, j' + 1, by omega, by omega, by simp; omega, by omega, ?_, ?_, ?_, by omega, ?_⟩
        · rw [hn, Nat.add_mul, Nat.pow_succ, Nat.mul_assoc r' 128, Nat.mul_comm 128 (128 ^ i)]
          omega
        · rw [h9, sev_more _ _ (by omega), hd, hs, ofNat_more c hM _ hm]
          rfl
        · rw [h9, Nat.pow_succ]
          omega
        · have e : (c :: t).take (j' + 1 - 1) = c :: t.take (j' - 1) := by
            rw [show j' + 1 - 1 = (j' - 1) + 1 by omega, List.take_succ_cons]
          rw [e, tkM _ _ _ _ (by omega) hM]
          exact hshort
      · by_cases hZ : c.toNat = 0 ∧ 0 < i
        · rw [tkZ _ _ _ _ hZ.1 hZ.2] at h
          simp at h
        · rw [tkE _ _ _ _ (by omega) (by omega) (by omega)] at h
          simp only [Prod.mk.injEq, and_true] at h
          obtain ⟨rfl, rfl⟩ := h
          refine ⟨c.toNat, 1, rfl, by omega, by simp, by omega, rfl, ?_, ?_, by omega, by simp [tk]⟩
          · rw [sev_last _ _ (by omega), ofNat_self]
            rfl
          · by_cases h9 : i = 9
            · subst h9; simp; omega
            · have hp : (128 : Nat) ^ 1 ≤ 128 ^ (9 - i) := Nat.pow_le_pow_right (by decide) (by omega)
              omega

/-- What was read is what is laid; a byte less is too short. -/
theorem tk_back0 (l : List UInt8) (n k : Nat) (h : tk l 0 0 = (n, k, 0)) :
    1 ≤ k ∧ k ≤ 10 ∧ k ≤ l.length ∧ n < 18446744073709551616 ∧ sevs (n : Int) = l.take k ∧ tk (l.take (k - 1)) 0 0 = (0, 0, 10) := by
  obtain ⟨r, j, hk, hj1, hj2, hj3, hn, hs, hr, _, hshort⟩ := tk_back l 0 0 n k (by omega) h
  have hn' : n = r := by simpa using hn
  have hk' : k = j := by omega
  subst hn' hk'
  refine ⟨hj1, by omega, hj2, by simpa using hr, ?_, hshort⟩
  unfold sevs
  rw [Int.toNat_natCast]
  exact hs

end Go.Proofs.YtbpjpdnkebdanaaDoor
