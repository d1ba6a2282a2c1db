/- What the calls of package vset on sets answer: a set is a number below 2^64 (SetM). Each call makes memory of its own and turns none. -/
import Derived.Test.YtmnmjmhmdnjdlaaDoorSetM
import Derived.Test.YtmnmjmhmdnjdlaaDoorMem
import Derived.Test.YtmnmjmhmdnjdlaaDoorProg
import Derived.Shelf.Spec.TrailingZeros
namespace Go.Proofs.YtmnmjmhmdnjdlaaDoor
open Go.ChangeShapes Go.WideShapes Go.ChangeAt Go.RowKit
set_option linter.unusedVariables false

/-- The set x, as a value. -/
abbrev sv (x : Nat) : Value := .agg #[.int .u64 (x : Nat)]

theorem bjoin {a b c : World} (h : Below a.heap.size a b) (k : Below b.heap.size b c) : Below a.heap.size a c := h.trans (k.mono h.size)
theorem bal {a w : World} (h : Below a.heap.size a w) (o : Obj) : Below a.heap.size a (w.alloc o) := h.alloc h.size o
theorem b0 (w : World) : Below w.heap.size w w := Below.refl _ _

theorem union_c (x y : Nat) (w : World) (hx : x < top64) (hy : y < top64) :
    Calls Tryd.prog 22 #[sv x, sv y] w fun e w' => e = .returned (sv (x ||| y)) ∧ Below w.heap.size w w' := by
  have e1 := u64_or_nat x y hx hy
  go_enter Tryd.func22, Tryd.ntmps22
  go_wp2
  exact bodyPost_ret (v := sv (x ||| y)) (by simp [results, Tryd.results22, go_sem]) rfl ⟨rfl, bal (bal (bal (b0 _) _) _) _⟩
theorem meet_c (x y : Nat) (w : World) (hx : x < top64) (hy : y < top64) :
    Calls Tryd.prog 24 #[sv x, sv y] w fun e w' => e = .returned (sv (x &&& y)) ∧ Below w.heap.size w w' := by
  have e1 := u64_and_nat x y hx hy
  go_enter Tryd.func24, Tryd.ntmps24
  go_wp2
  exact bodyPost_ret (v := sv (x &&& y)) (by simp [results, Tryd.results24, go_sem]) rfl ⟨rfl, bal (bal (bal (b0 _) _) _) _⟩
theorem minus_c (x y : Nat) (w : World) (hx : x < top64) (hy : y < top64) :
    Calls Tryd.prog 25 #[sv x, sv y] w fun e w' => e = .returned (sv (mns x y)) ∧ Below w.heap.size w w' := by
  have e1 := u64_andNot_nat x y hx hy
  rw [show (x &&& (18446744073709551615 - y)) = mns x y from rfl] at e1
  go_enter Tryd.func25, Tryd.ntmps25
  go_wp2
  exact bodyPost_ret (v := sv (mns x y)) (by simp [results, Tryd.results25, go_sem]) rfl ⟨rfl, bal (bal (bal (b0 _) _) _) _⟩
theorem right_yes (n : Int) (w : World) (h0 : 0 ≤ n) (h1 : n ≤ 63) :
    Calls Tryd.prog 31 #[.int .i64 n] w fun e w' => e = .returned (.bool true) ∧ w' = w := by
  have d0 : decide (0 ≤ n) = true := decide_eq_true h0
  have d1 : decide (n ≤ 63) = true := decide_eq_true h1
  go_enter Tryd.func31, Tryd.ntmps31
  go_wp2
  go_ret
  exact ⟨rfl, rfl⟩
theorem right_no (n : Int) (w : World) (h : n < 0 ∨ 63 < n) :
    Calls Tryd.prog 31 #[.int .i64 n] w fun e w' => e = .returned (.bool false) ∧ w' = w := by
  by_cases h0 : n < 0
  · clear h
    go_enter Tryd.func31, Tryd.ntmps31
    go_wp2
    go_ret
    exact ⟨rfl, rfl⟩
  · have h1 : 63 < n := by omega
    have h2 : 0 ≤ n := by omega
    have h3 : decide (n ≤ 63) = false := decide_eq_false (by omega)
    clear h h0
    go_enter Tryd.func31, Tryd.ntmps31
    go_wp2
    go_ret
    exact ⟨rfl, rfl⟩
theorem wrap_small {p : Nat} (h : p < 18446744073709551616) : IntKind.u64.wrap (p : Int) = (p : Int) := by rw [IntKind.wrap_u64]; omega
/-- The set of one number. -/
def bt (n : Nat) : Nat := 2 ^ n
theorem bt_lt {n : Nat} (h : n < 64) : bt n < top64 := one_lt h
theorem bt_bit (n i : Nat) : (bt n).testBit i = decide (n = i) := one_bit n i
theorem single_c (n : Nat) (w : World) (h : n < 64) :
    Calls Tryd.prog 32 #[.int .i64 n] w fun e w' => e = .returned (sv (bt n)) ∧ Below w.heap.size w w' := by
  have hp : 2 ^ n < 18446744073709551616 := one_lt h
  have e1 : IntKind.u64.wrap (2 ^ n) = ((bt n : Nat) : Int) := by
    rw [show (2 : Int) ^ n = ((2 ^ n : Nat) : Int) from by simp]
    exact wrap_small hp
  clear hp
  go_enter Tryd.func32, Tryd.ntmps32
  go_wp2
  exact bodyPost_ret (v := sv (bt n)) (by simp [results, Tryd.results32, go_sem]) rfl ⟨rfl, bal (b0 _) _⟩
/-- All numbers below n. -/
def blw (n : Int) : Nat := if n < 0 then 0 else if n < 64 then 2 ^ n.toNat - 1 else 18446744073709551615
theorem blw_lt (n : Int) : blw n < top64 := by
  unfold blw
  split
  · decide
  · split
    · exact Nat.lt_of_le_of_lt (Nat.sub_le _ _) (one_lt (by omega))
    · decide
theorem blw_bit (n : Int) (i : Nat) (hi : i < 64) : (blw n).testBit i = decide ((i : Int) < n) := by
  unfold blw
  split
  · rw [Nat.zero_testBit]; symm; apply decide_eq_false; omega
  · split
    · rw [Nat.testBit_two_pow_sub_one]; exact decide_eq_decide.2 (by omega)
    · rw [show 18446744073709551615 = 2 ^ 64 - 1 from by decide, Nat.testBit_two_pow_sub_one]; exact decide_eq_decide.2 (by omega)
theorem below_neg (n : Int) (w : World) (h : n < 0) :
    Calls Tryd.prog 35 #[.int .i64 n] w fun e w' => e = .returned (sv (blw n)) ∧ Below w.heap.size w w' := by
  have e0 : blw n = 0 := by unfold blw; rw [if_pos h]
  rw [e0]
  go_enter Tryd.func35, Tryd.ntmps35
  go_wp2
  exact bodyPost_ret (v := sv 0) (by simp [results, Tryd.results35, go_sem]) rfl ⟨rfl, bal (b0 _) _⟩
theorem below_pos (n : Nat) (w : World) (h : (n : Int) ≤ 9223372036854775807) :
    Calls Tryd.prog 35 #[.int .i64 n] w fun e w' => e = .returned (sv (blw n)) ∧ Below w.heap.size w w' := by
  by_cases h2 : n < 64
  · have hp : 2 ^ n < 18446744073709551616 := one_lt h2
    have h1 : 0 < 2 ^ n := Nat.pow_pos (by omega)
    have e2 : blw n = 2 ^ n - 1 := by unfold blw; rw [if_neg (by omega), if_pos (by omega)]; simp
    have e1 : IntKind.u64.wrap (2 ^ n) - 1 = ((blw n : Nat) : Int) := by
      rw [show (2 : Int) ^ n = ((2 ^ n : Nat) : Int) from by simp, wrap_small hp, e2]
      generalize 2 ^ n = p at h1
      omega
    have e3 : IntKind.u64.wrap ((blw n : Nat) : Int) = ((blw n : Nat) : Int) := wrap_small (blw_lt _)
    clear e2 hp h1
    go_enter Tryd.func35, Tryd.ntmps35
    go_wp2
    exact bodyPost_ret (v := sv (blw n)) (by simp [results, Tryd.results35, go_sem]) rfl ⟨rfl, bal (b0 _) _⟩
  · have e2 : blw n = 18446744073709551615 := by unfold blw; rw [if_neg (by omega), if_neg (by omega)]
    rw [e2]
    have h3 : 64 ≤ n := by omega
    have e1 : IntKind.u64.wrap (IntKind.u64.wrap 18446744073709551616 - 1) = ((18446744073709551615 : Nat) : Int) := by rw [IntKind.wrap_u64, IntKind.wrap_u64]; rfl
    clear e2
    go_enter Tryd.func35, Tryd.ntmps35
    go_wp2
    exact bodyPost_ret (v := sv 18446744073709551615) (by simp [results, Tryd.results35, go_sem]) rfl ⟨rfl, bal (b0 _) _⟩
theorem i64_mask7 (x : Nat) (h : x < 9223372036854775808) : bits .and .i64 (x : Int) 127 = ((x % 128 : Nat) : Int) := by
  have h1 : (BitVec.ofInt 64 (x : Int)).toNat = x := by
    rw [BitVec.ofInt_natCast, BitVec.toNat_ofNat]; exact Nat.mod_eq_of_lt (by omega)
  show IntKind.i64.wrap ((BitVec.ofInt 64 (x : Int) &&& BitVec.ofInt 64 127).toNat : Int) = _
  rw [BitVec.toNat_and, h1, show (BitVec.ofInt 64 127).toNat = 127 from rfl, nat_mask7, IntKind.wrap_i64]
  omega
theorem w64 {a : Int} {b : Nat} (h : a = (b : Int)) (hb : b < 18446744073709551616) : IntKind.u64.wrap a = (b : Int) := by
  rw [IntKind.wrap_u64, h]; omega
theorem step_and (a M p : Nat) (hp : p = (a &&& M)) (ha : a < 18446744073709551616) (hM : M < 18446744073709551616) : bits .and .u64 (a : Int) (M : Int) = (p : Int) := by
  rw [u64_and_nat a M ha hM, hp]
theorem ones_walk (x p1 p2 X1 q1 q2 X2 Z X3 X4 X5 X6 c : Nat) (w : World) (a1 : bits .and .u64 ((x : Int) / 2) 6148914691236517205 = (p1 : Int)) (a2 : bits .and .u64 (x : Int) 6148914691236517205 = (p2 : Int))
    (a3 : IntKind.u64.wrap ((p1 : Int) + (p2 : Int)) = (X1 : Int)) (b1 : bits .and .u64 ((X1 : Int) / 4) 3689348814741910323 = (q1 : Int)) (b2 : bits .and .u64 (X1 : Int) 3689348814741910323 = (q2 : Int))
    (b3 : IntKind.u64.wrap ((q1 : Int) + (q2 : Int)) = (X2 : Int)) (c1 : IntKind.u64.wrap ((X2 : Int) / 16 + (X2 : Int)) = (Z : Int)) (c2 : bits .and .u64 (Z : Int) 1085102592571150095 = (X3 : Int))
    (d1 : IntKind.u64.wrap ((X3 : Int) + (X3 : Int) / 256) = (X4 : Int)) (d2 : IntKind.u64.wrap ((X4 : Int) + (X4 : Int) / 65536) = (X5 : Int)) (d3 : IntKind.u64.wrap ((X5 : Int) + (X5 : Int) / 4294967296) = (X6 : Int))
    (d4 : wrap64 (X6 : Int) = (X6 : Int)) (d5 : bits .and .i64 (X6 : Int) 127 = (c : Int)) :
    Calls Tryd.prog 37 #[.int .u64 x] w fun e w' => e = .returned (.int .i64 c) ∧ w' = w := by
  go_enter Tryd.func37, Tryd.ntmps37
  go_wp2
  go_ret
  exact ⟨rfl, rfl⟩
theorem ones_c (x : Nat) (w : World) (hx : x < top64) :
    Calls Tryd.prog 37 #[.int .u64 x] w fun e w' => e = .returned (.int .i64 (cd x)) ∧ w' = w := by
  obtain ⟨o1, o2, o3, o4, o5⟩ := oc_cd x hx
  have l1 : (x / 2 &&& 6148914691236517205) ≤ 6148914691236517205 := Nat.and_le_right
  have l2 : (x &&& 6148914691236517205) ≤ 6148914691236517205 := Nat.and_le_right
  have l3 : pop1 x 6148914691236517205 = (x / 2 &&& 6148914691236517205) + (x &&& 6148914691236517205) := by rw [pop1]
  have l7 : oc3 x = (pop2 (pop1 x 6148914691236517205) 3689348814741910323 / 16 + pop2 (pop1 x 6148914691236517205) 3689348814741910323) &&& 1085102592571150095 := by rw [oc3]
  have hx' : x < 18446744073709551616 := hx
  generalize e1 : (x / 2 &&& 6148914691236517205) = p1 at *
  generalize e2 : (x &&& 6148914691236517205) = p2 at *
  generalize e3 : pop1 x 6148914691236517205 = X1 at *
  have l4 : (X1 / 4 &&& 3689348814741910323) ≤ 3689348814741910323 := Nat.and_le_right
  have l5 : (X1 &&& 3689348814741910323) ≤ 3689348814741910323 := Nat.and_le_right
  have l6 : pop2 X1 3689348814741910323 = (X1 / 4 &&& 3689348814741910323) + (X1 &&& 3689348814741910323) := by rw [pop2]
  generalize e4 : (X1 / 4 &&& 3689348814741910323) = q1 at *
  generalize e5 : (X1 &&& 3689348814741910323) = q2 at *
  generalize e6 : pop2 X1 3689348814741910323 = X2 at *
  generalize e7 : oc3 x = X3 at *
  have m4 : oc4 X3 = X3 + X3 / 256 := by rw [oc4]
  generalize e8 : oc4 X3 = X4 at *
  have m5 : oc5 X4 = X4 + X4 / 65536 := by rw [oc5]
  generalize e9 : oc5 X4 = X5 at *
  have m6 : oc6 X5 = X5 + X5 / 4294967296 := by rw [oc6]
  generalize e10 : oc6 X5 = X6 at *
  refine ones_walk x p1 p2 X1 q1 q2 X2 (X2 / 16 + X2) X3 X4 X5 X6 (cd x) w ?_ ?_ ?_ ?_ ?_ ?_ ?_ ?_ ?_ ?_ ?_ ?_ ?_
  · exact step_and (x / 2) 6148914691236517205 p1 e1.symm (by omega) (by omega)
  · exact step_and x 6148914691236517205 p2 e2.symm (by omega) (by omega)
  · exact w64 (by rw [l3]; rfl) (by omega)
  · exact step_and (X1 / 4) 3689348814741910323 q1 e4.symm (by omega) (by omega)
  · exact step_and X1 3689348814741910323 q2 e5.symm (by omega) (by omega)
  · exact w64 (by rw [l6]; rfl) (by omega)
  · exact w64 rfl (by omega)
  · exact step_and (X2 / 16 + X2) 1085102592571150095 X3 l7 (by omega) (by omega)
  · exact w64 (by rw [m4]; rfl) (by omega)
  · exact w64 (by rw [m5]; rfl) (by omega)
  · exact w64 (by rw [m6]; rfl) (by omega)
  · unfold wrap64; omega
  · rw [i64_mask7 _ o2, o1]

theorem len_c (x : Nat) (w : World) (hx : x < top64) :
    Calls Tryd.prog 28 #[sv x] w fun e w' => e = .returned (.int .i64 (cd x)) ∧ Below w.heap.size w w' := by
  go_enter Tryd.func28, Tryd.ntmps28
  go_wp2_with fail
  refine (ones_c x _ hx).mono ?_
  rintro e w1 ⟨rfl, rfl⟩
  go_wp2
  go_ret
  exact ⟨rfl, bal (b0 _) _⟩

/-- The library's table of places. -/
def Tz (w : World) : Prop := TabAt 0 Lib.deBruijn64tab w ∧ 0 < w.heap.size
theorem Tz.below {w w' : World} (h : Tz w) (b : Below w.heap.size w w') : Tz w' :=
  ⟨fun j hj => (b.cell (p := ⟨0, j, none⟩) h.2).trans (h.1 j hj), Nat.lt_of_lt_of_le h.2 b.size⟩
theorem tz_core (x k idx : Nat) (w : World) (hx0 : ((x : Int) == 0) = false)
    (key : IntKind.u64.wrap (bits BinOp.and IntKind.u64 (x : Int) (IntKind.u64.wrap (-(x : Int))) * 285870213051353865) / 288230376151711744 = (idx : Int))
    (hi : idx < 64) (hk : k < 64) (hcell : w.cell? ⟨0, idx, none⟩ = some (.int .u8 k)) :
    Calls Tryd.prog 36 #[.int .u64 x] w fun e w' => e = .returned (.int .i64 k) ∧ w' = w := by
  go_enter Tryd.func36, Tryd.ntmps36
  go_wp2_with (simp only [key])
  go_ret
  exact ⟨rfl, rfl⟩
theorem tz_c (x : Nat) (w : World) (hx : x < top64) (hx0 : x ≠ 0) (hT : Tz w) :
    Calls Tryd.prog 36 #[.int .u64 x] w fun e w' => e = .returned (.int .i64 (Lib.ctz 64 x)) ∧ w' = w := by
  obtain ⟨hlow, hk⟩ := Lib.lowest_bit 64 x hx0 hx
  obtain ⟨hi, htab⟩ := Lib.deBruijn64_at _ hk
  have hcell := hT.1 _ hi
  rw [htab] at hcell
  exact tz_core x _ _ w (by simp; omega) (tz64_key x _ hx hx0 hlow) hi hk hcell

end Go.Proofs.YtmnmjmhmdnjdlaaDoor
