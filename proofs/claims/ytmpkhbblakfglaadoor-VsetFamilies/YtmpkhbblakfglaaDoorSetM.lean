/- Sets of the numbers 0 to 63 as plain numbers below 2^64, bit by bit; how many bits there are, and the library's way to count them. No program. -/
import Derived.Laws.BitsAllLaws
import Derived.Laws.Bits64
import Derived.Laws.ShiftsVarLaws
import Derived.Lib.TrailingZeros
namespace Go.Proofs.YtmpkhbblakfglaaDoor
set_option linter.unusedVariables false

abbrev top64 : Nat := 18446744073709551616

/-- Those of x that y has not. -/
def mns (x y : Nat) : Nat := x &&& (18446744073709551615 - y)
theorem bit_lt {x : Nat} (h : x < top64) {i : Nat} (hi : x.testBit i = true) : i < 64 := by
  apply Classical.byContradiction
  intro hn
  have h2 : x < 2 ^ i := Nat.lt_of_lt_of_le (show x < 2 ^ 64 from h) (Nat.pow_le_pow_right (by omega) (by omega))
  rw [Nat.testBit_lt_two_pow h2] at hi
  cases hi
theorem lt_of_bits {x : Nat} (h : ∀ i, 64 ≤ i → x.testBit i = false) : x < top64 := Nat.lt_pow_two_of_testBit (n := 64) x (fun i hi => h i hi)
theorem mns_bit (x y : Nat) (hy : y < top64) (i : Nat) : (mns x y).testBit i = (x.testBit i && (decide (i < 64) && !y.testBit i)) := by
  unfold mns
  have e : 18446744073709551615 - y = 2 ^ 64 - (y + 1) := by omega
  rw [Nat.testBit_and, e, Nat.testBit_two_pow_sub_succ (show y < 2 ^ 64 from hy)]
theorem mns_bit' (x y : Nat) (hx : x < top64) (hy : y < top64) (i : Nat) : (mns x y).testBit i = (x.testBit i && !y.testBit i) := by
  rw [mns_bit x y hy]
  cases h : x.testBit i
  · rfl
  · simp [bit_lt hx h]
theorem and_lt {x y : Nat} (hx : x < top64) : x &&& y < top64 := Nat.lt_of_le_of_lt Nat.and_le_left hx
theorem or_lt {x y : Nat} (hx : x < top64) (hy : y < top64) : x ||| y < top64 := Nat.or_lt_two_pow (n := 64) hx hy
theorem mns_lt {x y : Nat} (hx : x < top64) : mns x y < top64 := and_lt hx
theorem ext64 {x y : Nat} (hx : x < top64) (hy : y < top64) (h : ∀ i, i < 64 → x.testBit i = y.testBit i) : x = y := by
  apply Nat.eq_of_testBit_eq
  intro i
  by_cases hi : i < 64
  · exact h i hi
  · rw [Nat.testBit_lt_two_pow (Nat.lt_of_lt_of_le (show x < 2 ^ 64 from hx) (Nat.pow_le_pow_right (by omega) (by omega))), Nat.testBit_lt_two_pow (Nat.lt_of_lt_of_le (show y < 2 ^ 64 from hy) (Nat.pow_le_pow_right (by omega) (by omega)))]
/-- The set of one number. -/
theorem one_lt {n : Nat} (h : n < 64) : 2 ^ n < top64 := Nat.pow_lt_pow_right (by omega) h
theorem one_bit (n i : Nat) : (2 ^ n).testBit i = decide (n = i) := Nat.testBit_two_pow
theorem and_one (x n : Nat) : x &&& 2 ^ n = if x.testBit n then 2 ^ n else 0 := by
  apply Nat.eq_of_testBit_eq
  intro i
  rw [Nat.testBit_and, one_bit]
  by_cases e : n = i
  · subst e
    cases x.testBit n <;> simp
  · split <;> simp [e]

/-- How many of the first n numbers are there. -/
def cdn (x : Nat) : Nat → Nat
  | 0 => 0
  | n + 1 => cdn x n + (if x.testBit n then 1 else 0)
def cd (x : Nat) : Nat := cdn x 64
theorem cdn_le (x n : Nat) : cdn x n ≤ n := by
  induction n with
  | zero => exact Nat.le_refl _
  | succ n ih => unfold cdn; split <;> omega
theorem cd_le (x : Nat) : cd x ≤ 64 := cdn_le x 64
theorem cdn_ext {x y : Nat} : ∀ n, (∀ i, i < n → x.testBit i = y.testBit i) → cdn x n = cdn y n
  | 0, _ => rfl
  | n + 1, h => by unfold cdn; rw [cdn_ext n (fun i hi => h i (by omega)), h n (by omega)]
theorem cd_both (a b : Nat) : cd (a ||| b) + cd (a &&& b) = cd a + cd b := by
  have key : ∀ n, cdn (a ||| b) n + cdn (a &&& b) n = cdn a n + cdn b n := by
    intro n
    induction n with
    | zero => rfl
    | succ n ih =>
      unfold cdn
      rw [Nat.testBit_or, Nat.testBit_and]
      cases a.testBit n <;> cases b.testBit n <;> simp <;> omega
  exact key 64
theorem cdn_add (x : Nat) (m : Nat) : ∀ n, cdn x (m + n) = cdn x m + cdn (x / 2 ^ m) n
  | 0 => rfl
  | n + 1 => by
    rw [← Nat.add_assoc]
    show cdn x (m + n) + _ = cdn x m + (cdn (x / 2 ^ m) n + _)
    rw [cdn_add x m n, Nat.testBit_div_two_pow, Nat.add_comm n m]
    omega

/-- Bytes taken apart: a mask that stays within its byte. -/
theorem split_mask (b y m M k : Nat) (hb : b < 256) (hm : m < 256) (hk : ∀ j, m.testBit j = true → j + k < 8) :
    ((256 * y + b) / 2 ^ k) &&& (256 * M + m) = 256 * (y / 2 ^ k &&& M) + (b / 2 ^ k &&& m) := by
  have h1 : b / 2 ^ k &&& m < 2 ^ 8 := Nat.lt_of_le_of_lt Nat.and_le_right hm
  apply Nat.eq_of_testBit_eq
  intro j
  rw [Nat.testBit_and, Nat.testBit_div_two_pow, show (256 : Nat) = 2 ^ 8 from rfl, Nat.testBit_two_pow_mul_add M (show m < 2 ^ 8 from hm), Nat.testBit_two_pow_mul_add y (show b < 2 ^ 8 from hb), Nat.testBit_two_pow_mul_add _ h1]
  by_cases hj : j < 8
  · rw [if_pos hj, if_pos hj, Nat.testBit_and, Nat.testBit_div_two_pow]
    cases h : m.testBit j
    · simp
    · rw [if_pos (hk j h)]
  · rw [if_neg hj, if_neg hj, if_neg (by omega), Nat.testBit_and, Nat.testBit_div_two_pow]
    rw [show j + k - 8 = j - 8 + k from by omega]

/-- The library's first three steps on a number, and on a byte. -/
def pop1 (x M : Nat) : Nat := (x / 2 &&& M) + (x &&& M)
def pop2 (x M : Nat) : Nat := (x / 4 &&& M) + (x &&& M)
def byte3 (b : Nat) : Nat := (pop2 (pop1 b 85) 51 / 16 + pop2 (pop1 b 85) 51) % 16

theorem pop1_cons (b y M : Nat) (hb : b < 256) : pop1 (256 * y + b) (256 * M + 85) = 256 * pop1 y M + pop1 b 85 := by
  have e1 := split_mask b y 85 M 1 hb (by decide) (fun j hj => by
    have : j < 8 := Nat.lt_of_not_le fun hle => by rw [Nat.testBit_lt_two_pow (Nat.lt_of_lt_of_le (show 85 < 2 ^ 8 by decide) (Nat.pow_le_pow_right (by omega) hle))] at hj; cases hj
    match j, this, hj with
    | 0, _, _ => decide
    | 1, _, h => revert h; decide
    | 2, _, _ => decide
    | 3, _, h => revert h; decide
    | 4, _, _ => decide
    | 5, _, h => revert h; decide
    | 6, _, _ => decide
    | 7, _, h => revert h; decide)
  have e0 := split_mask b y 85 M 0 hb (by decide) (fun j hj => Nat.lt_of_not_le fun hle => by rw [Nat.testBit_lt_two_pow (Nat.lt_of_lt_of_le (show 85 < 2 ^ 8 by decide) (Nat.pow_le_pow_right (by omega) (by omega : 8 ≤ j)))] at hj; cases hj)
  simp only [Nat.pow_zero, Nat.div_one, Nat.pow_one] at e0 e1
  unfold pop1
  rw [e1, e0]
  omega
theorem pop2_cons (b y M : Nat) (hb : b < 256) : pop2 (256 * y + b) (256 * M + 51) = 256 * pop2 y M + pop2 b 51 := by
  have e1 := split_mask b y 51 M 2 hb (by decide) (fun j hj => by
    have : j < 8 := Nat.lt_of_not_le fun hle => by rw [Nat.testBit_lt_two_pow (Nat.lt_of_lt_of_le (show 51 < 2 ^ 8 by decide) (Nat.pow_le_pow_right (by omega) hle))] at hj; cases hj
    match j, this, hj with
    | 0, _, _ => decide
    | 1, _, _ => decide
    | 2, _, h => revert h; decide
    | 3, _, h => revert h; decide
    | 4, _, _ => decide
    | 5, _, _ => decide
    | 6, _, h => revert h; decide
    | 7, _, h => revert h; decide)
  have e0 := split_mask b y 51 M 0 hb (by decide) (fun j hj => Nat.lt_of_not_le fun hle => by rw [Nat.testBit_lt_two_pow (Nat.lt_of_lt_of_le (show 51 < 2 ^ 8 by decide) (Nat.pow_le_pow_right (by omega) (by omega : 8 ≤ j)))] at hj; cases hj)
  simp only [Nat.pow_zero, Nat.div_one, show (2 : Nat) ^ 2 = 4 from rfl] at e0 e1
  unfold pop2
  rw [e1, e0]
  omega
theorem pop1_byte : ∀ b : Fin 256, pop1 b.val 85 < 256 := by decide +kernel
theorem pop2_byte : ∀ b : Fin 256, pop2 (pop1 b.val 85) 51 < 256 ∧ pop2 (pop1 b.val 85) 51 % 16 ≤ 4 ∧ pop2 (pop1 b.val 85) 51 / 16 ≤ 4 := by decide +kernel
theorem cdn_byte : ∀ b : Fin 256, pop2 (pop1 b.val 85) 51 % 16 + pop2 (pop1 b.val 85) 51 / 16 = cdn b.val 8 := by decide +kernel
theorem mask15_cons (a y M : Nat) (ha : a < 256) : (256 * y + a) &&& (256 * M + 15) = 256 * (y &&& M) + a % 16 := by
  have e0 := split_mask a y 15 M 0 ha (by decide) (fun j hj => Nat.lt_of_not_le fun hle => by rw [Nat.testBit_lt_two_pow (Nat.lt_of_lt_of_le (show 15 < 2 ^ 8 by decide) (Nat.pow_le_pow_right (by omega) (by omega : 8 ≤ j)))] at hj; cases hj)
  simp only [Nat.pow_zero, Nat.div_one, nat_mask4] at e0
  exact e0
theorem cdn_cons (b y n : Nat) (hb : b < 256) : cdn (256 * y + b) (8 + n) = cdn b 8 + cdn y n := by
  rw [cdn_add, show (2 : Nat) ^ 8 = 256 from rfl, show (256 * y + b) / 256 = y from by omega]
  congr 1
  apply cdn_ext
  intro i hi
  rw [show (256 : Nat) = 2 ^ 8 from rfl, Nat.testBit_two_pow_mul_add y (show b < 2 ^ 8 from hb), if_pos hi]
theorem cd_bytes (b0 b1 b2 b3 b4 b5 b6 b7 : Nat) (h0 : b0 < 256) (h1 : b1 < 256) (h2 : b2 < 256) (h3 : b3 < 256) (h4 : b4 < 256) (h5 : b5 < 256) (h6 : b6 < 256) (h7 : b7 < 256) :
    cd (256 * (256 * (256 * (256 * (256 * (256 * (256 * b7 + b6) + b5) + b4) + b3) + b2) + b1) + b0) = cdn b0 8 + (cdn b1 8 + (cdn b2 8 + (cdn b3 8 + (cdn b4 8 + (cdn b5 8 + (cdn b6 8 + cdn b7 8)))))) := by
  unfold cd
  rw [show 64 = 8 + (8 + (8 + (8 + (8 + (8 + (8 + 8)))))) from rfl, cdn_cons _ _ _ h0, cdn_cons _ _ _ h1, cdn_cons _ _ _ h2, cdn_cons _ _ _ h3, cdn_cons _ _ _ h4, cdn_cons _ _ _ h5, cdn_cons _ _ _ h6]

/-- The library's count of bits. -/
def oc3 (x : Nat) : Nat := (pop2 (pop1 x 6148914691236517205) 3689348814741910323 / 16 + pop2 (pop1 x 6148914691236517205) 3689348814741910323) &&& 1085102592571150095
def oc4 (z : Nat) : Nat := z + z / 256
def oc5 (z : Nat) : Nat := z + z / 65536
def oc6 (z : Nat) : Nat := z + z / 4294967296

theorem byte_bd {c : Nat} (b : Nat) (hb : b < 256) : pop1 b 85 < 256 ∧ pop2 (pop1 b 85) 51 < 256 ∧ pop2 (pop1 b 85) 51 % 16 ≤ 4 ∧ pop2 (pop1 b 85) 51 / 16 ≤ 4 ∧ pop2 (pop1 b 85) 51 % 16 + pop2 (pop1 b 85) 51 / 16 = cdn b 8 :=
  ⟨pop1_byte ⟨b, hb⟩, (pop2_byte ⟨b, hb⟩).1, (pop2_byte ⟨b, hb⟩).2.1, (pop2_byte ⟨b, hb⟩).2.2, cdn_byte ⟨b, hb⟩⟩
theorem nib (p : Nat) : ∃ h l, p = 16 * h + l ∧ p % 16 = l ∧ p / 16 = h ∧ l < 16 := ⟨p / 16, p % 16, by omega, rfl, rfl, by omega⟩

theorem bytes8 (x : Nat) (hx : x < 18446744073709551616) : ∃ b0 b1 b2 b3 b4 b5 b6 b7, b0 < 256 ∧ b1 < 256 ∧ b2 < 256 ∧ b3 < 256 ∧ b4 < 256 ∧ b5 < 256 ∧ b6 < 256 ∧ b7 < 256 ∧
    x = 256 * (256 * (256 * (256 * (256 * (256 * (256 * b7 + b6) + b5) + b4) + b3) + b2) + b1) + b0 :=
  ⟨x % 256, x / 256 % 256, x / 256 / 256 % 256, x / 256 / 256 / 256 % 256, x / 256 / 256 / 256 / 256 % 256, x / 256 / 256 / 256 / 256 / 256 % 256, x / 256 / 256 / 256 / 256 / 256 / 256 % 256, x / 256 / 256 / 256 / 256 / 256 / 256 / 256, by omega, by omega, by omega, by omega, by omega, by omega, by omega, by omega, by omega⟩
theorem div16 (A l : Nat) (h : l < 16) : (16 * A + l) / 16 = A := by omega
theorem half_sum (g0 g1 g2 g3 g4 g5 g6 g7 l0 l1 l2 l3 l4 l5 l6 l7 : Nat) (h : l0 < 16) :
    (256 * (256 * (256 * (256 * (256 * (256 * (256 * (16 * g7 + l7) + (16 * g6 + l6)) + (16 * g5 + l5)) + (16 * g4 + l4)) + (16 * g3 + l3)) + (16 * g2 + l2)) + (16 * g1 + l1)) + (16 * g0 + l0)) / 16 +
      (256 * (256 * (256 * (256 * (256 * (256 * (256 * (16 * g7 + l7) + (16 * g6 + l6)) + (16 * g5 + l5)) + (16 * g4 + l4)) + (16 * g3 + l3)) + (16 * g2 + l2)) + (16 * g1 + l1)) + (16 * g0 + l0)) =
      256 * (256 * (256 * (256 * (256 * (256 * (256 * (16 * g7 + (l7 + g7)) + (16 * (g6 + l7) + (l6 + g6))) + (16 * (g5 + l6) + (l5 + g5))) + (16 * (g4 + l5) + (l4 + g4))) + (16 * (g3 + l4) + (l3 + g3))) + (16 * (g2 + l3) + (l2 + g2))) + (16 * (g1 + l2) + (l1 + g1))) + (16 * (g0 + l1) + (l0 + g0)) := by
  generalize ea : 256 * (256 * (256 * (256 * (256 * (256 * (16 * g7 + l7) + (16 * g6 + l6)) + (16 * g5 + l5)) + (16 * g4 + l4)) + (16 * g3 + l3)) + (16 * g2 + l2)) + (16 * g1 + l1) = A
  rw [show 256 * A + (16 * g0 + l0) = 16 * (16 * A + g0) + l0 from by omega, div16 _ _ h]
  omega
theorem low4 (h l : Nat) (hl : l < 16) (hs : 16 * h + l < 256) : (16 * h + l) % 16 = l := by omega
theorem masked (c0 c1 c2 c3 c4 c5 c6 c7 d0 d1 d2 d3 d4 d5 d6 d7 : Nat) (h0 : c0 < 16) (h1 : c1 < 16) (h2 : c2 < 16) (h3 : c3 < 16) (h4 : c4 < 16) (h5 : c5 < 16) (h6 : c6 < 16) (h7 : c7 < 16)
    (k0 : d0 < 16) (k1 : d1 < 16) (k2 : d2 < 16) (k3 : d3 < 16) (k4 : d4 < 16) (k5 : d5 < 16) (k6 : d6 < 16) (k7 : d7 < 16) :
    (256 * (256 * (256 * (256 * (256 * (256 * (256 * (16 * d7 + c7) + (16 * d6 + c6)) + (16 * d5 + c5)) + (16 * d4 + c4)) + (16 * d3 + c3)) + (16 * d2 + c2)) + (16 * d1 + c1)) + (16 * d0 + c0)) &&& 1085102592571150095 =
      256 * (256 * (256 * (256 * (256 * (256 * (256 * c7 + c6) + c5) + c4) + c3) + c2) + c1) + c0 := by
  rw [show (1085102592571150095 : Nat) = 256 * (256 * (256 * (256 * (256 * (256 * (256 * 15 + 15) + 15) + 15) + 15) + 15) + 15) + 15 from by decide]
  rw [mask15_cons _ _ _ (by omega), mask15_cons _ _ _ (by omega), mask15_cons _ _ _ (by omega), mask15_cons _ _ _ (by omega), mask15_cons _ _ _ (by omega), mask15_cons _ _ _ (by omega), mask15_cons _ _ _ (by omega), nat_mask4]
  rw [low4 _ _ h0 (by omega), low4 _ _ h1 (by omega), low4 _ _ h2 (by omega), low4 _ _ h3 (by omega), low4 _ _ h4 (by omega), low4 _ _ h5 (by omega), low4 _ _ h6 (by omega), low4 _ _ h7 (by omega)]
/-- A byte behind two steps: its two halves. -/
theorem halves (b : Nat) (hb : b < 256) : pop1 b 85 < 256 ∧ ∃ g l, pop2 (pop1 b 85) 51 = 16 * g + l ∧ g ≤ 4 ∧ l ≤ 4 ∧ cdn b 8 = l + g := by
  obtain ⟨h1, h2, h3, h4, h5⟩ := byte_bd (c := 0) b hb
  exact ⟨h1, pop2 (pop1 b 85) 51 / 16, pop2 (pop1 b 85) 51 % 16, by omega, h4, h3, h5.symm⟩

theorem oc3_bytes (x : Nat) (hx : x < top64) : ∃ c0 c1 c2 c3 c4 c5 c6 c7, c0 ≤ 8 ∧ c1 ≤ 8 ∧ c2 ≤ 8 ∧ c3 ≤ 8 ∧ c4 ≤ 8 ∧ c5 ≤ 8 ∧ c6 ≤ 8 ∧ c7 ≤ 8 ∧
    oc3 x = 256 * (256 * (256 * (256 * (256 * (256 * (256 * c7 + c6) + c5) + c4) + c3) + c2) + c1) + c0 ∧ cd x = c0 + (c1 + (c2 + (c3 + (c4 + (c5 + (c6 + c7)))))) := by
  obtain ⟨b0, b1, b2, b3, b4, b5, b6, b7, h0, h1, h2, h3, h4, h5, h6, h7, rfl⟩ := bytes8 x hx
  clear hx
  rw [cd_bytes _ _ _ _ _ _ _ _ h0 h1 h2 h3 h4 h5 h6 h7]
  unfold oc3
  rw [show (6148914691236517205 : Nat) = 256 * (256 * (256 * (256 * (256 * (256 * (256 * 85 + 85) + 85) + 85) + 85) + 85) + 85) + 85 from by decide,
    pop1_cons _ _ _ h0, pop1_cons _ _ _ h1, pop1_cons _ _ _ h2, pop1_cons _ _ _ h3, pop1_cons _ _ _ h4, pop1_cons _ _ _ h5, pop1_cons _ _ _ h6]
  obtain ⟨t0, g0, l0, e0, p0, q0, r0⟩ := halves b0 h0
  obtain ⟨t1, g1, l1, e1, p1, q1, r1⟩ := halves b1 h1
  obtain ⟨t2, g2, l2, e2, p2, q2, r2⟩ := halves b2 h2
  obtain ⟨t3, g3, l3, e3, p3, q3, r3⟩ := halves b3 h3
  obtain ⟨t4, g4, l4, e4, p4, q4, r4⟩ := halves b4 h4
  obtain ⟨t5, g5, l5, e5, p5, q5, r5⟩ := halves b5 h5
  obtain ⟨t6, g6, l6, e6, p6, q6, r6⟩ := halves b6 h6
  obtain ⟨t7, g7, l7, e7, p7, q7, r7⟩ := halves b7 h7
  rw [show (3689348814741910323 : Nat) = 256 * (256 * (256 * (256 * (256 * (256 * (256 * 51 + 51) + 51) + 51) + 51) + 51) + 51) + 51 from by decide,
    pop2_cons _ _ _ t0, pop2_cons _ _ _ t1, pop2_cons _ _ _ t2, pop2_cons _ _ _ t3, pop2_cons _ _ _ t4, pop2_cons _ _ _ t5, pop2_cons _ _ _ t6]
  rw [e0, e1, e2, e3, e4, e5, e6, e7, r0, r1, r2, r3, r4, r5, r6, r7]
  clear e0 e1 e2 e3 e4 e5 e6 e7 r0 r1 r2 r3 r4 r5 r6 r7 t0 t1 t2 t3 t4 t5 t6 t7 h0 h1 h2 h3 h4 h5 h6 h7
  rw [half_sum _ _ _ _ _ _ _ _ _ _ _ _ _ _ _ _ (by omega)]
  rw [masked (l0 + g0) (l1 + g1) (l2 + g2) (l3 + g3) (l4 + g4) (l5 + g5) (l6 + g6) (l7 + g7) (g0 + l1) (g1 + l2) (g2 + l3) (g3 + l4) (g4 + l5) (g5 + l6) (g6 + l7) g7 (by omega) (by omega) (by omega) (by omega) (by omega) (by omega) (by omega) (by omega) (by omega) (by omega) (by omega) (by omega) (by omega) (by omega) (by omega) (by omega)]
  exact ⟨l0 + g0, l1 + g1, l2 + g2, l3 + g3, l4 + g4, l5 + g5, l6 + g6, l7 + g7, by omega, by omega, by omega, by omega, by omega, by omega, by omega, by omega, rfl, rfl⟩

theorem oc4_b (c0 A : Nat) (h0 : c0 < 256) : oc4 (256 * A + c0) = 256 * A + c0 + A := by unfold oc4; omega
theorem oc5_b (c A : Nat) (h0 : c < 65536) : oc5 (65536 * A + c) = 65536 * A + c + A := by unfold oc5; omega
theorem oc6_b (c A : Nat) (h0 : c < 4294967296) : oc6 (4294967296 * A + c) = 4294967296 * A + c + A := by unfold oc6; omega
theorem oc_cd (x : Nat) (hx : x < top64) : oc6 (oc5 (oc4 (oc3 x))) % 128 = cd x ∧ oc6 (oc5 (oc4 (oc3 x))) < 9223372036854775808 ∧ oc5 (oc4 (oc3 x)) < 9223372036854775808 ∧ oc4 (oc3 x) < 9223372036854775808 ∧ oc3 x < 9223372036854775808 := by
  obtain ⟨c0, c1, c2, c3, c4, c5, c6, c7, h0, h1, h2, h3, h4, h5, h6, h7, e1, e2⟩ := oc3_bytes x hx
  rw [e2, e1]
  clear e1 e2 hx
  rw [oc4_b c0 _ (by omega)]
  rw [show 256 * (256 * (256 * (256 * (256 * (256 * (256 * c7 + c6) + c5) + c4) + c3) + c2) + c1) + c0 + (256 * (256 * (256 * (256 * (256 * (256 * c7 + c6) + c5) + c4) + c3) + c2) + c1) =
    65536 * (65536 * (65536 * (256 * c7 + (c6 + c7)) + (256 * (c5 + c6) + (c4 + c5))) + (256 * (c3 + c4) + (c2 + c3))) + (256 * (c1 + c2) + (c0 + c1)) from by omega]
  rw [oc5_b _ _ (by omega)]
  rw [show 65536 * (65536 * (65536 * (256 * c7 + (c6 + c7)) + (256 * (c5 + c6) + (c4 + c5))) + (256 * (c3 + c4) + (c2 + c3))) + (256 * (c1 + c2) + (c0 + c1)) + (65536 * (65536 * (256 * c7 + (c6 + c7)) + (256 * (c5 + c6) + (c4 + c5))) + (256 * (c3 + c4) + (c2 + c3))) =
    4294967296 * (65536 * (256 * c7 + (c6 + c7)) + (256 * (c5 + c6 + c7) + (c4 + c5 + c6 + c7))) + (65536 * (256 * (c3 + c4 + c5 + c6) + (c2 + c3 + c4 + c5)) + (256 * (c1 + c2 + c3 + c4) + (c0 + c1 + c2 + c3))) from by omega]
  rw [oc6_b _ _ (by omega)]
  refine ⟨?_, by omega, by omega, by omega, by omega⟩
  rw [show 4294967296 * (65536 * (256 * c7 + (c6 + c7)) + (256 * (c5 + c6 + c7) + (c4 + c5 + c6 + c7))) + (65536 * (256 * (c3 + c4 + c5 + c6) + (c2 + c3 + c4 + c5)) + (256 * (c1 + c2 + c3 + c4) + (c0 + c1 + c2 + c3))) + (65536 * (256 * c7 + (c6 + c7)) + (256 * (c5 + c6 + c7) + (c4 + c5 + c6 + c7))) =
    128 * (33554432 * (65536 * (256 * c7 + (c6 + c7)) + (256 * (c5 + c6 + c7) + (c4 + c5 + c6 + c7))) + (512 * (256 * (c3 + c4 + c5 + c6) + (c2 + c3 + c4 + c5)) + 2 * (c1 + c2 + c3 + c4)) + (512 * (256 * c7 + (c6 + c7)) + 2 * (c5 + c6 + c7))) + (c0 + (c1 + (c2 + (c3 + (c4 + (c5 + (c6 + c7))))))) from by omega]
  rw [Nat.mul_add_mod, Nat.mod_eq_of_lt (by omega)]

end Go.Proofs.YtmpkhbblakfglaaDoor
