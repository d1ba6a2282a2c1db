/- What the calls of package vset on sets answer: a set is a number below 2^64 (SetM). Each call makes memory of its own and turns none. -/
import Derived.Test.YtmpkhbblakfglaaDoorSetM
import Derived.Test.YtmpkhbblakfglaaDoorMem
import Derived.Test.YtmpkhbblakfglaaDoorProg
import Derived.Shelf.Spec.TrailingZeros
namespace Go.Proofs.YtmpkhbblakfglaaDoor
open Go.ChangeShapes Go.WideShapes Go.ChangeAt Go.RowKit
set_option linter.unusedVariables false

/-- The set x, as a value. -/
abbrev sv (x : Nat) : Value := .agg #[.int .u64 (x : Nat)]

theorem bjoin {a b c : World} (h : Below a.heap.size a b) (k : Below b.heap.size b c) : Below a.heap.size a c := h.trans (k.mono h.size)
theorem bal {a w : World} (h : Below a.heap.size a w) (o : Obj) : Below a.heap.size a (w.alloc o) := h.alloc h.size o
theorem b0 (w : World) : Below w.heap.size w w := Below.refl _ _

theorem union_c (x y : Nat) (w : World) (hx : x < top64) (hy : y < top64) :
    Calls Tryd.prog 32 #[sv x, sv y] w fun e w' => e = .returned (sv (x ||| y)) ∧ Below w.heap.size w w' := by
  have e1 := u64_or_nat x y hx hy
  go_enter Tryd.func32, Tryd.ntmps32
  go_wp2
  exact bodyPost_ret (v := sv (x ||| y)) (by simp [results, Tryd.results32, go_sem]) rfl ⟨rfl, bal (bal (bal (b0 _) _) _) _⟩
theorem minus_c (x y : Nat) (w : World) (hx : x < top64) (hy : y < top64) :
    Calls Tryd.prog 36 #[sv x, sv y] w fun e w' => e = .returned (sv (mns x y)) ∧ Below w.heap.size w w' := by
  have e1 := u64_andNot_nat x y hx hy
  rw [show (x &&& (18446744073709551615 - y)) = mns x y from rfl] at e1
  go_enter Tryd.func36, Tryd.ntmps36
  go_wp2
  exact bodyPost_ret (v := sv (mns x y)) (by simp [results, Tryd.results36, go_sem]) rfl ⟨rfl, bal (bal (bal (b0 _) _) _) _⟩
theorem right_yes (n : Int) (w : World) (h0 : 0 ≤ n) (h1 : n ≤ 63) :
    Calls Tryd.prog 31 #[.int .i64 n] w fun e w' => e = .returned (.bool true) ∧ w' = w := by
  have d0 : decide (0 ≤ n) = true := decide_eq_true h0
  have d1 : decide (n ≤ 63) = true := decide_eq_true h1
  go_enter Tryd.func31, Tryd.ntmps31
  go_wp2
  go_ret
  exact ⟨rfl, rfl⟩
theorem right_no (n : Int) (w : World) (h : n < 0 ∨ 63 < n) :
    Calls Tryd.prog 31 #[.int .i64 n] w fun e w' => e = .returned (.bool false) ∧ w' = w := by
  by_cases h0 : n < 0
  · clear h
    go_enter Tryd.func31, Tryd.ntmps31
    go_wp2
    go_ret
    exact ⟨rfl, rfl⟩
  · have h1 : 63 < n := by omega
    have h2 : 0 ≤ n := by omega
    have h3 : decide (n ≤ 63) = false := decide_eq_false (by omega)
    clear h h0
    go_enter Tryd.func31, Tryd.ntmps31
    go_wp2
    go_ret
    exact ⟨rfl, rfl⟩
theorem wrap_small {p : Nat} (h : p < 18446744073709551616) : IntKind.u64.wrap (p : Int) = (p : Int) := by rw [IntKind.wrap_u64]; omega
/-- The set of one number. -/
def bt (n : Nat) : Nat := 2 ^ n
theorem bt_lt {n : Nat} (h : n < 64) : bt n < top64 := one_lt h
theorem bt_bit (n i : Nat) : (bt n).testBit i = decide (n = i) := one_bit n i
theorem single_c (n : Nat) (w : World) (h : n < 64) :
    Calls Tryd.prog 33 #[.int .i64 n] w fun e w' => e = .returned (sv (bt n)) ∧ Below w.heap.size w w' := by
  have hp : 2 ^ n < 18446744073709551616 := one_lt h
  have e1 : IntKind.u64.wrap (2 ^ n) = ((bt n : Nat) : Int) := by
    rw [show (2 : Int) ^ n = ((2 ^ n : Nat) : Int) from by simp]
    exact wrap_small hp
  clear hp
  go_enter Tryd.func33, Tryd.ntmps33
  go_wp2
  exact bodyPost_ret (v := sv (bt n)) (by simp [results, Tryd.results33, go_sem]) rfl ⟨rfl, bal (b0 _) _⟩
/-- All numbers below n. -/
def blw (n : Int) : Nat := if n < 0 then 0 else if n < 64 then 2 ^ n.toNat - 1 else 18446744073709551615
theorem blw_lt (n : Int) : blw n < top64 := by
  unfold blw
  split
  · decide
  · split
    · exact Nat.lt_of_le_of_lt (Nat.sub_le _ _) (one_lt (by omega))
    · decide
theorem blw_bit (n : Int) (i : Nat) (hi : i < 64) : (blw n).testBit i = decide ((i : Int) < n) := by
  unfold blw
  split
  · rw [Nat.zero_testBit]; symm; apply decide_eq_false; omega
  · split
    · rw [Nat.testBit_two_pow_sub_one]; exact decide_eq_decide.2 (by omega)
    · rw [show 18446744073709551615 = 2 ^ 64 - 1 from by decide, Nat.testBit_two_pow_sub_one]; exact decide_eq_decide.2 (by omega)
theorem below_neg (n : Int) (w : World) (h : n < 0) :
    Calls Tryd.prog 37 #[.int .i64 n] w fun e w' => e = .returned (sv (blw n)) ∧ Below w.heap.size w w' := by
  have e0 : blw n = 0 := by unfold blw; rw [if_pos h]
  rw [e0]
  go_enter Tryd.func37, Tryd.ntmps37
  go_wp2
  exact bodyPost_ret (v := sv 0) (by simp [results, Tryd.results37, go_sem]) rfl ⟨rfl, bal (b0 _) _⟩
theorem below_pos (n : Nat) (w : World) (h : (n : Int) ≤ 9223372036854775807) :
    Calls Tryd.prog 37 #[.int .i64 n] w fun e w' => e = .returned (sv (blw n)) ∧ Below w.heap.size w w' := by
  by_cases h2 : n < 64
  · have hp : 2 ^ n < 18446744073709551616 := one_lt h2
    have h1 : 0 < 2 ^ n := Nat.pow_pos (by omega)
    have e2 : blw n = 2 ^ n - 1 := by unfold blw; rw [if_neg (by omega), if_pos (by omega)]; simp
    have e1 : IntKind.u64.wrap (2 ^ n) - 1 = ((blw n : Nat) : Int) := by
      rw [show (2 : Int) ^ n = ((2 ^ n : Nat) : Int) from by simp, wrap_small hp, e2]
      generalize 2 ^ n = p at h1
      omega
    have e3 : IntKind.u64.wrap ((blw n : Nat) : Int) = ((blw n : Nat) : Int) := wrap_small (blw_lt _)
    clear e2 hp h1
    go_enter Tryd.func37, Tryd.ntmps37
    go_wp2
    exact bodyPost_ret (v := sv (blw n)) (by simp [results, Tryd.results37, go_sem]) rfl ⟨rfl, bal (b0 _) _⟩
  · have e2 : blw n = 18446744073709551615 := by unfold blw; rw [if_neg (by omega), if_neg (by omega)]
    rw [e2]
    have h3 : 64 ≤ n := by omega
    have e1 : IntKind.u64.wrap (IntKind.u64.wrap 18446744073709551616 - 1) = ((18446744073709551615 : Nat) : Int) := by rw [IntKind.wrap_u64, IntKind.wrap_u64]; rfl
    clear e2
    go_enter Tryd.func37, Tryd.ntmps37
    go_wp2
    exact bodyPost_ret (v := sv 18446744073709551615) (by simp [results, Tryd.results37, go_sem]) rfl ⟨rfl, bal (b0 _) _⟩
theorem i64_mask7 (x : Nat) (h : x < 9223372036854775808) : bits .and .i64 (x : Int) 127 = ((x % 128 : Nat) : Int) := by
  have h1 : (BitVec.ofInt 64 (x : Int)).toNat = x := by
    rw [BitVec.ofInt_natCast, BitVec.toNat_ofNat]; exact Nat.mod_eq_of_lt (by omega)
  show IntKind.i64.wrap ((BitVec.ofInt 64 (x : Int) &&& BitVec.ofInt 64 127).toNat : Int) = _
  rw [BitVec.toNat_and, h1, show (BitVec.ofInt 64 127).toNat = 127 from rfl, nat_mask7, IntKind.wrap_i64]
  omega
theorem w64 {a : Int} {b : Nat} (h : a = (b : Int)) (hb : b < 18446744073709551616) : IntKind.u64.wrap a = (b : Int) := by
  rw [IntKind.wrap_u64, h]; omega
theorem step_and (a M p : Nat) (hp : p = (a &&& M)) (ha : a < 18446744073709551616) (hM : M < 18446744073709551616) : bits .and .u64 (a : Int) (M : Int) = (p : Int) := by
  rw [u64_and_nat a M ha hM, hp]
/-- The library's table of places. -/
def Tz (w : World) : Prop := TabAt 0 Lib.deBruijn64tab w ∧ 0 < w.heap.size
theorem Tz.below {w w' : World} (h : Tz w) (b : Below w.heap.size w w') : Tz w' :=
  ⟨fun j hj => (b.cell (p := ⟨0, j, none⟩) h.2).trans (h.1 j hj), Nat.lt_of_lt_of_le h.2 b.size⟩
theorem tz_core (x k idx : Nat) (w : World) (hx0 : ((x : Int) == 0) = false)
    (key : IntKind.u64.wrap (bits BinOp.and IntKind.u64 (x : Int) (IntKind.u64.wrap (-(x : Int))) * 285870213051353865) / 288230376151711744 = (idx : Int))
    (hi : idx < 64) (hk : k < 64) (hcell : w.cell? ⟨0, idx, none⟩ = some (.int .u8 k)) :
    Calls Tryd.prog 38 #[.int .u64 x] w fun e w' => e = .returned (.int .i64 k) ∧ w' = w := by
  go_enter Tryd.func38, Tryd.ntmps38
  go_wp2_with (simp only [key])
  go_ret
  exact ⟨rfl, rfl⟩
theorem tz_c (x : Nat) (w : World) (hx : x < top64) (hx0 : x ≠ 0) (hT : Tz w) :
    Calls Tryd.prog 38 #[.int .u64 x] w fun e w' => e = .returned (.int .i64 (Lib.ctz 64 x)) ∧ w' = w := by
  obtain ⟨hlow, hk⟩ := Lib.lowest_bit 64 x hx0 hx
  obtain ⟨hi, htab⟩ := Lib.deBruijn64_at _ hk
  have hcell := hT.1 _ hi
  rw [htab] at hcell
  exact tz_core x _ _ w (by simp; omega) (tz64_key x _ hx hx0 hlow) hi hk hcell

end Go.Proofs.YtmpkhbblakfglaaDoor
