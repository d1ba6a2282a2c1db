/- Plain arithmetic of sevens of bits: how a number is laid as bytes, how bytes are read; nothing of the program is named here. -/
import Derived.Test.YtbpjpdnkebdanabDoorMath
namespace Go.Proofs.YtbpjpdnkebdanabDoor
open Go.RowKit

/-- Bytes read as a number: at place i, with what stands so far. The number, how many bytes, the error (0, 10 or 11). -/
def tk : List UInt8 → Nat → Nat → Nat × Nat × Nat
  | [], _, _ => (0, 0, 10)
  | c :: r, i, u =>
    if i = 9 ∧ 1 < c.toNat then (0, 0, 11)
    else if 128 ≤ c.toNat then tk r (i + 1) (u + c.toNat % 128 * 128 ^ i)
    else if c.toNat = 0 ∧ 0 < i then (0, 0, 11)
    else (u + c.toNat * 128 ^ i, i + 1, 0)

/-- A number in sevens of bits, in at most f + 1 bytes. -/
def sev : Nat → Nat → List UInt8
  | 0, u => [UInt8.ofNat u]
  | f + 1, u => if u < 128 then [UInt8.ofNat u] else UInt8.ofNat (u % 128 + 128) :: sev f (u / 128)

/-- The bytes of a number. -/
def sevs (u : Int) : List UInt8 := sev 9 u.toNat

theorem drop_cons (s : ByteArray) (k : Nat) (h : k < s.size) : s.data.toList.drop k = s[k] :: s.data.toList.drop (k + 1) := by
  have hl : k < s.data.toList.length := by simpa using h
  rw [List.drop_eq_getElem_cons hl]
  rfl

theorem tkF (c : UInt8) (r : List UInt8) (k u : Nat) (h9 : k = 9) (h : 1 < c.toNat) : tk (c :: r) k u = (0, 0, 11) := by
  simp [tk, h9, h]
theorem tkM (c : UInt8) (r : List UInt8) (k u : Nat) (h9 : k = 9 → c.toNat ≤ 1) (h : 128 ≤ c.toNat) : tk (c :: r) k u = tk r (k + 1) (u + c.toNat % 128 * 128 ^ k) := by
  have n9 : ¬ (k = 9 ∧ 1 < c.toNat) := by omega
  rw [tk, if_neg n9, if_pos h]
theorem tkZ (c : UInt8) (r : List UInt8) (k u : Nat) (h : c.toNat = 0) (hk : 0 < k) : tk (c :: r) k u = (0, 0, 11) := by
  have n9 : ¬ (k = 9 ∧ 1 < c.toNat) := by omega
  have n1 : ¬ 128 ≤ c.toNat := by omega
  rw [tk, if_neg n9, if_neg n1, if_pos ⟨h, hk⟩]
theorem tkE (c : UInt8) (r : List UInt8) (k u : Nat) (h9 : k = 9 → c.toNat ≤ 1) (h : c.toNat < 128) (hz : c.toNat = 0 → k = 0) : tk (c :: r) k u = (u + c.toNat * 128 ^ k, k + 1, 0) := by
  have n9 : ¬ (k = 9 ∧ 1 < c.toNat) := by omega
  have n1 : ¬ 128 ≤ c.toNat := by omega
  have n2 : ¬ (c.toNat = 0 ∧ 0 < k) := by omega
  rw [tk, if_neg n9, if_neg n1, if_neg n2]

theorem low7 (c : Nat) (hc : c < 256) : bits .and .u8 (c : Int) 127 = ((c % 128 : Nat) : Int) := by
  rw [u8_and _ _ (by omega) (by omega) (by omega) (by omega), show (127 : Int).toNat = 127 from rfl, nat_mask7, Int.toNat_natCast]

theorem pow7 (k : Nat) : (128 : Nat) ^ k = 2 ^ (7 * k) := by rw [Nat.pow_mul]

theorem digit_lt (k c : Nat) (hk : k ≤ 9) (h9 : k = 9 → c ≤ 1) : c % 128 * 128 ^ k < 18446744073709551616 := by
  have : k = 0 ∨ k = 1 ∨ k = 2 ∨ k = 3 ∨ k = 4 ∨ k = 5 ∨ k = 6 ∨ k = 7 ∨ k = 8 ∨ k = 9 := by omega
  rcases this with rfl | rfl | rfl | rfl | rfl | rfl | rfl | rfl | rfl | rfl <;> simp <;> omega

theorem acc_lt (k acc : Nat) (hk : k ≤ 9) (ha : acc < 128 ^ k) : acc < 9223372036854775808 := by
  have : (128 : Nat) ^ k ≤ 128 ^ 9 := Nat.pow_le_pow_right (by decide) hk
  have e : (128 : Nat) ^ 9 = 9223372036854775808 := by decide
  omega

theorem digit_eq (k acc c : Nat) (hk : k ≤ 9) (ha : acc < 128 ^ k) (hc : c < 256) (h9 : k = 9 → c ≤ 1) :
    bits .or .u64 (acc : Int) (IntKind.u64.wrap (IntKind.u64.wrap (bits .and .u8 (c : Int) 127) * 2 ^ (7 * k))) = ((acc + c % 128 * 128 ^ k : Nat) : Int) := by
  have hd := digit_lt k c hk h9
  have hl := acc_lt k acc hk ha
  have e1 : IntKind.u64.wrap ((c % 128 : Nat) : Int) = ((c % 128 : Nat) : Int) := by rw [IntKind.wrap_u64]; omega
  have e2 : (((c % 128 : Nat) : Int) * 2 ^ (7 * k)) = ((c % 128 * 128 ^ k : Nat) : Int) := by
    rw [pow7]; simp
  have e3 : IntKind.u64.wrap ((c % 128 * 128 ^ k : Nat) : Int) = ((c % 128 * 128 ^ k : Nat) : Int) := by rw [IntKind.wrap_u64]; omega
  rw [low7 c hc, e1, e2, e3, u64_or _ _ (by omega) (by omega) (by omega) (by omega), Int.toNat_natCast, Int.toNat_natCast, Nat.or_comm,
    nat_join (7 * k) _ _ (by rw [← pow7]; exact Nat.mul_mod_left _ _) (by rw [← pow7]; exact ha)]
  omega
theorem digit_eq9 (acc c : Nat) (ha : acc < 128 ^ 9) (h9 : c ≤ 1) :
    bits .or .u64 (acc : Int) (IntKind.u64.wrap (IntKind.u64.wrap (bits .and .u8 (c : Int) 127) * 9223372036854775808)) = ((acc + c % 128 * 128 ^ 9 : Nat) : Int) := by
  have h := digit_eq 9 acc c (by omega) ha (by omega) (fun _ => h9)
  have e : ((2 : Int) ^ (7 * 9)) = 9223372036854775808 := by decide
  rw [e] at h
  exact h
theorem digit_acc (k acc c : Nat) (ha : acc < 128 ^ k) : acc + c % 128 * 128 ^ k < 128 ^ (k + 1) := by
  rw [Nat.pow_succ]
  have h1 : c % 128 * 128 ^ k ≤ 127 * 128 ^ k := Nat.mul_le_mul_right _ (by omega)
  omega

/-- The byte that tells that another one follows. -/
theorem byte_more (r : Nat) : bits .or .u8 (IntKind.u8.wrap (r : Int)) 128 = (((UInt8.ofNat (r % 128 + 128)).toNat : Nat) : Int) := by
  have e : (UInt8.ofNat (r % 128 + 128)).toNat = r % 128 + 128 := by
    rw [UInt8.toNat_ofNat']; omega
  have e1 : IntKind.u8.wrap (r : Int) = ((r % 256 : Nat) : Int) := by rw [IntKind.wrap_u8]; omega
  rw [e, e1, u8_or _ _ (by omega) (by omega) (by omega) (by omega), Int.toNat_natCast, show (128 : Int).toNat = 128 from rfl]
  have hx : r % 256 ||| 128 = r % 256 % 128 + 128 := by
    have h := nat_join 7 128 (r % 256 % 128) (by decide) (by omega)
    have hq : r % 256 = r % 256 % 128 ∨ r % 256 = 128 + r % 256 % 128 := by omega
    rcases hq with hq | hq
    · rw [hq, Nat.or_comm, show r % 256 % 128 % 128 = r % 256 % 128 from by omega, h]; omega
    · have : (128 ||| r % 256 % 128) ||| 128 = 128 ||| r % 256 % 128 := by
        rw [Nat.or_comm, ← Nat.or_assoc, Nat.or_self]
      rw [hq, ← h, this, h]; omega
  rw [hx]; omega
theorem byte_more' (r : Nat) : bits .or .u8 ((r : Int) % 256) 128 = (((UInt8.ofNat (r % 128 + 128)).toNat : Nat) : Int) := by
  rw [← byte_more, IntKind.wrap_u8]
theorem byte_sum (r : Nat) : (r : Int) % 128 + 128 = (((UInt8.ofNat (r % 128 + 128)).toNat : Nat) : Int) := by
  rw [UInt8.toNat_ofNat']; omega
theorem byte_last (r : Nat) (h : r < 128) : (r : Int) = (((UInt8.ofNat r).toNat : Nat) : Int) := by
  rw [UInt8.toNat_ofNat']; omega

theorem sev_more (f r : Nat) (h : ¬ r < 128) : sev (f + 1) r = UInt8.ofNat (r % 128 + 128) :: sev f (r / 128) := by
  rw [sev, if_neg h]
theorem sev_last (f r : Nat) (h : r < 128) : sev f r = [UInt8.ofNat r] := by
  cases f with
  | zero => rfl
  | succ f => rw [sev, if_pos h]

theorem digit_sum (k acc c : Nat) (hk : k ≤ 9) (ha : acc < 128 ^ k) (h9 : k = 9 → c ≤ 1) : acc + c % 128 * 128 ^ k < 18446744073709551616 := by
  have : k = 0 ∨ k = 1 ∨ k = 2 ∨ k = 3 ∨ k = 4 ∨ k = 5 ∨ k = 6 ∨ k = 7 ∨ k = 8 ∨ k = 9 := by omega
  rcases this with rfl | rfl | rfl | rfl | rfl | rfl | rfl | rfl | rfl | rfl <;> simp at * <;> omega
theorem rdigit_eq (k acc unit c : Nat) (hk : k ≤ 9) (hu : unit = 128 ^ k) (ha : acc < 128 ^ k) (h9 : k = 9 → c ≤ 1) :
    IntKind.u64.wrap ((acc : Int) + IntKind.u64.wrap ((c : Int) % 128 * (unit : Int))) = ((acc + c % 128 * 128 ^ k : Nat) : Int) := by
  have hd := digit_lt k c hk h9
  have hl := digit_sum k acc c hk ha h9
  have e : ((c : Int) % 128 * (unit : Int)) = ((c % 128 * 128 ^ k : Nat) : Int) := by
    rw [hu]; simp
  have e1 : IntKind.u64.wrap ((c % 128 * 128 ^ k : Nat) : Int) = ((c % 128 * 128 ^ k : Nat) : Int) := by rw [IntKind.wrap_u64]; omega
  rw [e, e1, IntKind.wrap_u64]
  omega
theorem rdigit_zero (k acc : Nat) (hk : k ≤ 9) (ha : acc < 128 ^ k) : IntKind.u64.wrap ((acc : Int) + IntKind.u64.wrap 0) = ((acc + 0 * 128 ^ k : Nat) : Int) := by
  have hl := acc_lt k acc hk ha
  rw [IntKind.wrap_u64, IntKind.wrap_u64, Nat.zero_mul]
  omega
theorem runit_eq (k unit : Nat) (hk : k ≤ 8) (hu : unit = 128 ^ k) : IntKind.u64.wrap ((unit : Int) * 128) = ((128 ^ (k + 1) : Nat) : Int) := by
  have h : (128 : Nat) ^ (k + 1) ≤ 128 ^ 9 := Nat.pow_le_pow_right (by decide) (by omega)
  have e : (128 : Nat) ^ 9 = 9223372036854775808 := by decide
  have e2 : (128 : Nat) ^ (k + 1) = 128 ^ k * 128 := Nat.pow_succ ..
  rw [IntKind.wrap_u64, hu, e2]
  omega

/-- One round of laying: what is left falls below the next bound. -/
theorem put_step (r f : Nat) (h : r < 2 * 128 ^ f) (hr : ¬ r < 128) : ∃ g, f = g + 1 ∧ r / 128 < 2 * 128 ^ g := by
  cases f with
  | zero => simp at h; omega
  | succ g => exact ⟨g, rfl, by rw [Nat.pow_succ] at h; omega⟩

theorem sev_len (f : Nat) : ∀ r, 1 ≤ (sev f r).length ∧ (sev f r).length ≤ f + 1 := by
  induction f with
  | zero => intro r; simp [sev]
  | succ f ih =>
    intro r
    have := ih (r / 128)
    rw [sev]
    split
    · simp
    · simp; omega
theorem sevs_len (u : Int) : 1 ≤ (sevs u).length ∧ (sevs u).length ≤ 10 := sev_len 9 _

/-- What was laid is read again, whatever stands behind. -/
theorem tk_sev (b : List UInt8) (f : Nat) : ∀ (r i acc : Nat), i + f = 9 → r < 2 * 128 ^ f → (r ≠ 0 ∨ i = 0) →
    tk (sev f r ++ b) i acc = (acc + r * 128 ^ i, i + (sev f r).length, 0) := by
  induction f with
  | zero =>
    intro r i acc hi hr hz
    have hr2 : r < 2 := by simpa using hr
    have e : (UInt8.ofNat r).toNat = r := by rw [UInt8.toNat_ofNat']; omega
    rw [sev, List.singleton_append, tkE _ _ _ _ (by omega) (by omega) (by omega), e]
    simp
  | succ f ih =>
    intro r i acc hi hr hz
    by_cases h : r < 128
    · have e : (UInt8.ofNat r).toNat = r := by rw [UInt8.toNat_ofNat']; omega
      rw [sev_last _ _ h, List.singleton_append, tkE _ _ _ _ (by omega) (by omega) (by omega), e]
      simp
    · have e : (UInt8.ofNat (r % 128 + 128)).toNat = r % 128 + 128 := by rw [UInt8.toNat_ofNat']; omega
      have hp : 2 * 128 ^ (f + 1) = 128 * (2 * 128 ^ f) := by rw [Nat.pow_succ]; omega
      rw [sev_more _ _ h, List.cons_append, tkM _ _ _ _ (by omega) (by omega), e, ih (r / 128) (i + 1) _ (by omega) (by omega) (by omega)]
      have e1 : (r % 128 + 128) % 128 = r % 128 := by omega
      have e2 : r % 128 * 128 ^ i + r / 128 * 128 ^ (i + 1) = r * 128 ^ i := by
        have hr' : r = r % 128 + r / 128 * 128 := by omega
        have : r * 128 ^ i = (r % 128 + r / 128 * 128) * 128 ^ i := by rw [← hr']
        rw [this, Nat.add_mul, Nat.pow_succ, Nat.mul_assoc (r / 128) 128, Nat.mul_comm 128 (128 ^ i)]
      rw [e1, Nat.add_assoc, e2]
      simp
      omega
theorem tk_sevs (u : Int) (b : List UInt8) (h1 : 0 ≤ u) (h2 : u < 18446744073709551616) : tk (sevs u ++ b) 0 0 = (u.toNat, (sevs u).length, 0) := by
  have h := tk_sev b 9 u.toNat 0 0 (by omega) (by omega) (by omega)
  simpa [sevs] using h

end Go.Proofs.YtbpjpdnkebdanabDoor
