/- Plain arithmetic for the laws of package pack: zigzags, sums of fields, the stirring of sums, sevens of bits; nothing of the program is named here. -/
import Derived.Laws.BitsAllLaws
import Derived.Laws.Bits64
import Derived.Laws.ShiftsVarLaws
import Derived.Below
import Derived.IntWalk
namespace Go.Proofs.YtbpjpdnkebdanabDoor
open Go.RowKit

/-- All ones but those of a. -/
theorem xor_ones (a : Nat) (h : a < 18446744073709551616) : a ^^^ 18446744073709551615 = 18446744073709551615 - a := by
  have e := congrArg BitVec.toNat (BitVec.xor_allOnes (x := BitVec.ofNat 64 a))
  rw [BitVec.toNat_xor, BitVec.toNat_not, BitVec.toNat_allOnes, BitVec.toNat_ofNat, Nat.mod_eq_of_lt (by omega)] at e
  omega

/-- The zigzag of a number. -/
def zg (n : Int) : Int := if 0 ≤ n then 2 * n else -(2 * n) - 1
/-- The number of a zigzag. -/
def zgb (u : Int) : Int := if u % 2 = 0 then u / 2 else -(u / 2) - 1

theorem zg_bd (n : Int) (h1 : -9223372036854775808 ≤ n) (h2 : n ≤ 9223372036854775807) : 0 ≤ zg n ∧ zg n < 18446744073709551616 := by
  unfold zg; split <;> omega
theorem zgb_bd (u : Int) (h1 : 0 ≤ u) (h2 : u < 18446744073709551616) : -9223372036854775808 ≤ zgb u ∧ zgb u ≤ 9223372036854775807 := by
  unfold zgb; split <;> omega
theorem zgb_zg (n : Int) : zgb (zg n) = n := by
  unfold zg zgb; split <;> split <;> omega
theorem zg_zgb (u : Int) (h1 : 0 ≤ u) : zg (zgb u) = u := by
  unfold zg zgb; split <;> split <;> omega

theorem zig_eq (n : Int) (h1 : -9223372036854775808 ≤ n) (h2 : n ≤ 9223372036854775807) :
    bits .xor .u64 (IntKind.u64.wrap (IntKind.u64.wrap n * 2)) (IntKind.u64.wrap (n / 9223372036854775808)) = zg n := by
  simp only [IntKind.wrap_u64]
  rw [u64_xor _ _ (by omega) (by omega) (by omega) (by omega)]
  unfold zg
  split
  · have e : n / 9223372036854775808 % 18446744073709551616 = 0 := by omega
    rw [e]; simp; omega
  · have e : n / 9223372036854775808 % 18446744073709551616 = 18446744073709551615 := by omega
    rw [e, show (18446744073709551615 : Int).toNat = 18446744073709551615 from rfl, xor_ones _ (by omega)]
    omega

theorem wrap64_small (n : Int) (h1 : -9223372036854775808 ≤ n) (h2 : n ≤ 9223372036854775807) : wrap64 n = n := by
  unfold wrap64; omega

theorem xor_i64 (a b : Int) : bits .xor .i64 a b = IntKind.i64.wrap ((BitVec.ofInt 64 a ^^^ BitVec.ofInt 64 b).toNat : Int) := rfl
/-- Exclusive or with 0, and with all ones, on numbers with a sign. -/
theorem xor_i64_zero (a : Int) (h1 : 0 ≤ a) (h2 : a < 9223372036854775808) : bits .xor .i64 a 0 = a := by
  obtain ⟨x, rfl⟩ := Int.eq_ofNat_of_zero_le h1
  rw [xor_i64, BitVec.ofInt_natCast, show BitVec.ofInt 64 0 = 0#64 from rfl, BitVec.xor_zero, BitVec.toNat_ofNat, Nat.mod_eq_of_lt (by omega), IntKind.wrap_i64]
  omega
theorem xor_i64_ones (a : Int) (h1 : 0 ≤ a) (h2 : a < 9223372036854775808) : bits .xor .i64 a (-1) = -a - 1 := by
  obtain ⟨x, rfl⟩ := Int.eq_ofNat_of_zero_le h1
  rw [xor_i64, BitVec.ofInt_natCast, show BitVec.ofInt 64 (-1) = BitVec.allOnes 64 from by decide, BitVec.xor_allOnes, BitVec.toNat_not, BitVec.toNat_ofNat, Nat.mod_eq_of_lt (by omega), IntKind.wrap_i64]
  omega

theorem zag_eq (u : Int) (h1 : 0 ≤ u) (h2 : u < 18446744073709551616) :
    bits .xor .i64 (u / 2) (wrap64 (-wrap64 (bits .and .u64 u 1))) = zgb u := by
  rw [u64_and _ _ h1 h2 (by omega) (by omega), show (1 : Int).toNat = 1 from rfl, nat_mask1]
  unfold zgb
  split
  · have e : u.toNat % 2 = 0 := by omega
    rw [e, wrap64_small ((0 : Nat) : Int) (by omega) (by omega), wrap64_small (-((0 : Nat) : Int)) (by omega) (by omega), show (-((0 : Nat) : Int)) = 0 from rfl]
    exact xor_i64_zero _ (by omega) (by omega)
  · have e : u.toNat % 2 = 1 := by omega
    rw [e, wrap64_small ((1 : Nat) : Int) (by omega) (by omega), wrap64_small (-((1 : Nat) : Int)) (by omega) (by omega), show (-((1 : Nat) : Int)) = -1 from rfl, xor_i64_ones _ (by omega) (by omega)]

/-- The stirring of a sum, on plain numbers. -/
def mxl (x : Nat) : Nat := x * 11400714819323198485 % 18446744073709551616
def mxr (x : Nat) : Nat := x ^^^ x / 4294967296
def mx (h z : Int) : Int := ((mxr (mxl (h.toNat ^^^ z.toNat)) : Nat) : Int)

theorem mxl_lt (x : Nat) : mxl x < 18446744073709551616 := Nat.mod_lt _ (by decide)
theorem mx_eq (h z : Int) (g1 : 0 ≤ h) (g2 : h < 18446744073709551616) (h1 : 0 ≤ z) (h2 : z < 18446744073709551616) :
    bits .xor .u64 (IntKind.u64.wrap (bits .xor .u64 h z * 11400714819323198485)) (IntKind.u64.wrap (bits .xor .u64 h z * 11400714819323198485) / 4294967296) = mx h z := by
  have e : IntKind.u64.wrap (bits .xor .u64 h z * 11400714819323198485) = ((mxl (h.toNat ^^^ z.toNat) : Nat) : Int) := by
    rw [u64_xor _ _ g1 g2 h1 h2, IntKind.wrap_u64]
    unfold mxl
    omega
  have hl := mxl_lt (h.toNat ^^^ z.toNat)
  rw [e, u64_xor _ _ (by omega) (by omega) (by omega) (by omega)]
  unfold mx mxr
  rw [Int.toNat_natCast, show (((mxl (h.toNat ^^^ z.toNat) : Nat) : Int) / 4294967296).toNat = mxl (h.toNat ^^^ z.toNat) / 4294967296 from by omega]
theorem mx_eq_ref (h z : Int) (g1 : 0 ≤ h) (g2 : h < 18446744073709551616) (h1 : 0 ≤ z) (h2 : z < 18446744073709551616) :
    bits .xor .u64 (IntKind.u64.wrap (bits .xor .u64 h z * 11400714819323198485)) (IntKind.u64.wrap ((IntKind.u64.wrap (bits .xor .u64 h z * 11400714819323198485)).tdiv 4294967296)) = mx h z := by
  rw [← mx_eq h z g1 g2 h1 h2]
  have e : IntKind.u64.wrap ((IntKind.u64.wrap (bits .xor .u64 h z * 11400714819323198485)).tdiv 4294967296) = IntKind.u64.wrap (bits .xor .u64 h z * 11400714819323198485) / 4294967296 := by
    rw [IntKind.wrap_u64, IntKind.wrap_u64, Int.tdiv_eq_ediv_of_nonneg (by omega)]
    omega
  rw [e]
theorem mx_bd (h z : Int) : 0 ≤ mx h z ∧ mx h z < 18446744073709551616 := by
  have hl := mxl_lt (h.toNat ^^^ z.toNat)
  have := Nat.xor_lt_two_pow (n := 64) (x := mxl (h.toNat ^^^ z.toNat)) (y := mxl (h.toNat ^^^ z.toNat) / 4294967296) (by omega) (by omega)
  unfold mx mxr
  omega

/-- Fields side by side. -/
theorem or_join (x y : Int) (h1 : 0 ≤ x) (h2 : x < 68719476736) (h3 : 0 ≤ y) (h4 : y < 268435456) : bits .or .u64 (x * 268435456) y = x * 268435456 + y := by
  rw [u64_or _ _ (by omega) (by omega) (by omega) (by omega), nat_join 28 _ _ (by omega) (by omega)]
  omega
theorem word_eq (o a b : Int) (h1 : 0 ≤ o) (h2 : o ≤ 255) (h3 : 0 ≤ a) (h4 : a ≤ 268435455) (h5 : 0 ≤ b) (h6 : b ≤ 268435455) :
    bits .or .u64 (bits .or .u64 (o * 72057594037927936) (a * 268435456)) b = (o * 268435456 + a) * 268435456 + b := by
  have e : bits .or .u64 (o * 72057594037927936) (a * 268435456) = (o * 268435456 + a) * 268435456 := by
    rw [u64_or _ _ (by omega) (by omega) (by omega) (by omega), nat_join 56 _ _ (by omega) (by omega)]
    omega
  rw [e, or_join _ _ (by omega) (by omega) h5 (by omega)]
theorem part0_eq (u : Int) (h1 : 0 ≤ u) (h2 : u < 18446744073709551616) : wrap64 (bits .and .u64 (u / 72057594037927936) 255) = u / 72057594037927936 := by
  rw [u64_and _ _ (by omega) (by omega) (by omega) (by omega), show (255 : Int).toNat = 255 from rfl, nat_mask8, wrap64_small _ (by omega) (by omega)]
  omega
theorem and_mask28 (x : Nat) : x &&& 268435455 = x % 268435456 := Nat.and_two_pow_sub_one_eq_mod x 28
theorem part1_eq (u : Int) (h1 : 0 ≤ u) (h2 : u < 18446744073709551616) : wrap64 (bits .and .u64 (u / 268435456) 268435455) = u / 268435456 % 268435456 := by
  rw [u64_and _ _ (by omega) (by omega) (by omega) (by omega), show (268435455 : Int).toNat = 268435455 from rfl, and_mask28, wrap64_small _ (by omega) (by omega)]
  omega
theorem part2_eq (u : Int) (h1 : 0 ≤ u) (h2 : u < 18446744073709551616) : wrap64 (bits .and .u64 u 268435455) = u % 268435456 := by
  rw [u64_and _ _ (by omega) (by omega) (by omega) (by omega), show (268435455 : Int).toNat = 268435455 from rfl, and_mask28, wrap64_small _ (by omega) (by omega)]
  omega

end Go.Proofs.YtbpjpdnkebdanabDoor
