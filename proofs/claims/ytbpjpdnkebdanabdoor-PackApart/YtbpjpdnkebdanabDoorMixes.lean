/- Plain arithmetic of the stirring of sums: it can be undone, so unlike numbers stay unlike. -/
import Derived.Test.YtbpjpdnkebdanabDoorMath
namespace Go.Proofs.YtbpjpdnkebdanabDoor
open Go.RowKit

theorem mxr_back (x : Nat) (h : x < 18446744073709551616) : mxr (mxr x) = x := by
  have e : (x ^^^ x / 4294967296) / 4294967296 = x / 4294967296 := by
    have h1 : (x ^^^ x / 4294967296) / 4294967296 = (x ^^^ x / 4294967296) >>> 32 := by rw [Nat.shiftRight_eq_div_pow]
    have h2 : x >>> 32 = x / 4294967296 := by rw [Nat.shiftRight_eq_div_pow]
    have h3 : (x / 4294967296) >>> 32 = 0 := by rw [Nat.shiftRight_eq_div_pow]; omega
    rw [h1, Nat.shiftRight_xor_distrib, h2, h3, Nat.xor_zero]
  unfold mxr
  rw [e, Nat.xor_assoc, Nat.xor_self, Nat.xor_zero]

theorem mxl_back (x : Nat) (h : x < 18446744073709551616) : mxl x * 17428512612931826493 % 18446744073709551616 = x := by
  unfold mxl
  rw [Nat.mod_mul_mod, Nat.mul_assoc, show 11400714819323198485 * 17428512612931826493 = 10771413168148108919 * 18446744073709551616 + 1 by decide]
  omega

theorem mx_inj (x y : Nat) (hx : x < 18446744073709551616) (hy : y < 18446744073709551616) (h : mxr (mxl x) = mxr (mxl y)) : x = y := by
  have h1 := congrArg mxr h
  rw [mxr_back _ (mxl_lt x), mxr_back _ (mxl_lt y)] at h1
  rw [← mxl_back x hx, ← mxl_back y hy, h1]

theorem xor_lt (a b : Int) (h1 : 0 ≤ a) (h2 : a < 18446744073709551616) (h3 : 0 ≤ b) (h4 : b < 18446744073709551616) : a.toNat ^^^ b.toNat < 18446744073709551616 :=
  Nat.xor_lt_two_pow (n := 64) (x := a.toNat) (y := b.toNat) (by omega) (by omega)

/-- Of one number, unlike sums stay unlike. -/
theorem mx_left (h k z : Int) (h1 : 0 ≤ h) (h2 : h < 18446744073709551616) (k1 : 0 ≤ k) (k2 : k < 18446744073709551616) (z1 : 0 ≤ z) (z2 : z < 18446744073709551616) (e : mx h z = mx k z) : h = k := by
  unfold mx at e
  have e1 := mx_inj _ _ (xor_lt h z h1 h2 z1 z2) (xor_lt k z k1 k2 z1 z2) (by omega)
  have e2 := congrArg (· ^^^ z.toNat) e1
  simp only [Nat.xor_assoc, Nat.xor_self, Nat.xor_zero] at e2
  omega
/-- Of one sum, unlike numbers tell. -/
theorem mx_right (h y z : Int) (h1 : 0 ≤ h) (h2 : h < 18446744073709551616) (y1 : 0 ≤ y) (y2 : y < 18446744073709551616) (z1 : 0 ≤ z) (z2 : z < 18446744073709551616) (e : mx h y = mx h z) : y = z := by
  unfold mx at e
  have e1 := mx_inj _ _ (xor_lt h y h1 h2 y1 y2) (xor_lt h z h1 h2 z1 z2) (by omega)
  have e2 := congrArg (h.toNat ^^^ ·) e1
  simp only [← Nat.xor_assoc, Nat.xor_self, Nat.zero_xor] at e2
  omega
theorem zg_inj (n m : Int) (h : zg n = zg m) : n = m := by
  rw [← zgb_zg n, ← zgb_zg m, h]

end Go.Proofs.YtbpjpdnkebdanabDoor
