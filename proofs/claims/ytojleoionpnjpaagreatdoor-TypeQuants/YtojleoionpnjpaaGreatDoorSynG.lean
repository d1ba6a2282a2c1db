/- The reader: parts in parentheses; a slice of trees that grows. -/
import Derived.Test.YtojleoionpnjpaaGreatDoorSynU
import Derived.WalkLawsBesides
import Derived.Deep.RegionHeld3
import Derived.Deep.CutBlock
import Derived.Deep.DeepCutAuto
namespace Go.Proofs.YtojleoionpnjpaaGreatDoor
open Go.ChangeShapes Go.WideShapes Go.ChangeAt Go.RowKit
set_option linter.unusedVariables false
set_option linter.unusedSimpArgs false

def isSetK (k : Int) : Bool := k == 22 || k == 23 || k == 24 || k == 25
def rowOf (k : Int) : Nat := if k == 19 || k == 21 then 0 else if k == 7 then 3 else if k == 6 then 7 else match opOf k with | some x => x.2.2.1 | none => 8
def numB (k n : Int) : Bool := if k == 1 || k == 3 then decide (0 ≤ n) else if k == 2 then n == 0 || n == 1 else if k == 20 then (callOf n).isSome else if k == 21 then (quantOf n).isSome else n == 0
def namB (k : Int) (nm : List UInt8) : Bool := if k == 4 || k == 23 || k == 21 then nameB nm else nm == []
def kidB (k n : Int) (m : Nat) : Bool := if k == 1 || k == 2 || k == 3 || k == 4 || k == 22 || k == 23 then (m : Int) == 0 else if k == 6 || k == 7 || k == 24 then (m : Int) == 1 else if k == 21 then (m : Int) == 2 else if k == 19 then (m : Int) == 3 else if k == 20 then (match callOf n with | some x => (m : Int) == (x.2.2 : Nat) | none => (m : Int) == 0) else if k == 25 then true else (opOf k).isSome && (m : Int) == 2
theorem bne {k : Int} {c : Int} (h : k ≠ c) : (k == c) = false := by rw [beq_eq_false_iff_ne]; exact h
set_option maxRecDepth 100000 in
theorem isSet_r (k n : Int) (nm : List UInt8) (ao : Option Addr) (len cap : Nat) (a : Int) (w : World) :
    Calls Tryz.prog 49 #[.agg #[.int .i64 k, .int .i64 n, stv nm, .slice ao len cap, .int .i64 a]] w fun e w' => e = .returned (.bool (isSetK k)) ∧ Below w.heap.size w w' := by
  have B0 : Below w.heap.size w (w.alloc (.cells #[.int .i64 k, .int .i64 n, stv nm, .slice ao len cap, .int .i64 a] 25)) := (Below.refl _ w).alloc (Nat.le_refl _) _
  by_cases h22 : k = 22
  · subst h22
    go_enter Tryz.func49, Tryz.ntmps49
    go_wp2
    go_ret
    exact ⟨rfl, B0⟩
  have b22 := bne h22
  by_cases h23 : k = 23
  · subst h23
    go_enter Tryz.func49, Tryz.ntmps49
    go_wp2
    go_ret
    exact ⟨rfl, B0⟩
  have b23 := bne h23
  by_cases h24 : k = 24
  · subst h24
    go_enter Tryz.func49, Tryz.ntmps49
    go_wp2
    go_ret
    exact ⟨rfl, B0⟩
  have b24 := bne h24
  by_cases h25 : k = 25
  · subst h25
    go_enter Tryz.func49, Tryz.ntmps49
    go_wp2
    go_ret
    exact ⟨rfl, B0⟩
  have b25 := bne h25
  have E : isSetK k = false := by simp [isSetK, b22, b23, b24, b25]
  rw [E]
  go_enter Tryz.func49, Tryz.ntmps49
  go_wp2
  go_ret
  exact ⟨rfl, B0⟩
set_option maxRecDepth 100000 in
theorem rowOf_r (k : Int) (w : World) (hO : OpW w) :
    Calls Tryz.prog 85 #[.int .i64 k] w fun e w' => e = .returned (.int .i64 (rowOf k : Nat)) ∧ Below w.heap.size w w' := by
  by_cases h19 : k = 19
  · subst h19
    go_enter Tryz.func85, Tryz.ntmps85
    go_wp2
    go_ret
    exact ⟨rfl, Below.refl _ _⟩
  have b19 := bne h19
  by_cases h21 : k = 21
  · subst h21
    go_enter Tryz.func85, Tryz.ntmps85
    go_wp2
    go_ret
    exact ⟨rfl, Below.refl _ _⟩
  have b21 := bne h21
  by_cases h7 : k = 7
  · subst h7
    go_enter Tryz.func85, Tryz.ntmps85
    go_wp2
    go_ret
    exact ⟨rfl, Below.refl _ _⟩
  have b7 := bne h7
  by_cases h6 : k = 6
  · subst h6
    go_enter Tryz.func85, Tryz.ntmps85
    go_wp2
    go_ret
    exact ⟨rfl, Below.refl _ _⟩
  have b6 := bne h6
  have c1 := opOf_r k w hO
  cases hz : opOf k with
  | some z =>
    rw [show opsL.find? (fun x => (x.2.1 : Int) == k) = some z from hz] at c1
    unfold opF at c1
    simp only at c1
    have E : rowOf k = z.2.2.1 := by simp [rowOf, b19, b21, b7, b6, hz]
    rw [E]
    clear hz E
    go_enter Tryz.func85, Tryz.ntmps85
    go_wp2_with fail
    refine c1.mono ?_
    rintro e w1 ⟨rfl, b1⟩
    have B1 := b1.alloc b1.size (.cells #[stv z.1, .int .i64 (z.2.1 : Nat), .int .i64 (z.2.2.1 : Nat), .int .i64 (z.2.2.2.1 : Nat), .int .i64 (z.2.2.2.2 : Nat)] 132)
    clear c1
    go_wp2
    go_ret
    exact ⟨rfl, B1⟩
  | none =>
    rw [show opsL.find? (fun x => (x.2.1 : Int) == k) = none from hz] at c1
    unfold opF at c1
    simp only at c1
    have E : rowOf k = 8 := by simp [rowOf, b19, b21, b7, b6, hz]
    rw [E]
    clear hz E
    go_enter Tryz.func85, Tryz.ntmps85
    go_wp2_with fail
    refine c1.mono ?_
    rintro e w1 ⟨rfl, b1⟩
    have B1 := b1.alloc b1.size (.cells #[.string ⟨#[]⟩, .int .i64 0, .int .i64 0, .int .i64 0, .int .i64 0] 132)
    clear c1
    go_wp2
    go_ret
    exact ⟨rfl, B1⟩
set_option maxRecDepth 100000 in
set_option maxHeartbeats 1000000 in
theorem number_r2 (k n : Int) (nm : List UInt8) (ao : Option Addr) (len cap : Nat) (a : Int) (w : World) (hC : ClW w) (hQ : QnW w) :
    Calls Tryz.prog 82 #[.agg #[.int .i64 k, .int .i64 n, stv nm, .slice ao len cap, .int .i64 a]] w fun e w' => e = .returned (.bool (numB k n)) ∧ Below w.heap.size w w' := by
  have B0 : Below w.heap.size w (w.alloc (.cells #[.int .i64 k, .int .i64 n, stv nm, .slice ao len cap, .int .i64 a] 25)) := (Below.refl _ w).alloc (Nat.le_refl _) _
  by_cases h1 : k = 1
  · subst h1
    have E : numB 1 n = decide (0 ≤ n) := rfl
    rw [E]
    go_enter Tryz.func82, Tryz.ntmps82
    go_wp2
    go_ret
    exact ⟨ret_bool (by simp), B0⟩
  have b1 := bne h1
  by_cases h3 : k = 3
  · subst h3
    have E : numB 3 n = decide (0 ≤ n) := rfl
    rw [E]
    go_enter Tryz.func82, Tryz.ntmps82
    go_wp2
    go_ret
    exact ⟨ret_bool (by simp), B0⟩
  have b3 := bne h3
  by_cases h2 : k = 2
  · subst h2
    have E : numB 2 n = (n == 0 || n == 1) := rfl
    rw [E]
    go_enter Tryz.func82, Tryz.ntmps82
    cases hn0 : (n == 0) with
    | true => go_wp2; go_ret; exact ⟨ret_bool (by simp), B0⟩
    | false => go_wp2; go_ret; exact ⟨ret_bool (by simp), B0⟩
  have b2 := bne h2
  by_cases h20 : k = 20
  · subst h20
    have c1 := callOf_r n (w.alloc (.cells #[.int .i64 20, .int .i64 n, stv nm, .slice ao len cap, .int .i64 a] 25)) (hC.below B0)
    cases hz : callOf n with
    | some z =>
      rw [show callsL.find? (fun x => (x.2.1 : Int) == n) = some z from hz] at c1
      unfold clF at c1
      simp only at c1
      have E : numB 20 n = true := by simp [numB, hz]
      rw [E]
      clear hz E
      go_enter Tryz.func82, Tryz.ntmps82
      go_wp2_with fail
      refine c1.mono ?_
      rintro e w1 ⟨rfl, b1⟩
      have B1 := (B0.trans (b1.mono B0.size)).alloc (Nat.le_trans B0.size b1.size) (.cells #[stv z.1, .int .i64 (z.2.1 : Nat), .int .i64 (z.2.2 : Nat)] 116)
      clear c1
      go_wp2
      go_ret
      exact ⟨ret_bool (by simp), B1⟩
    | none =>
      rw [show callsL.find? (fun x => (x.2.1 : Int) == n) = none from hz] at c1
      unfold clF at c1
      simp only at c1
      have E : numB 20 n = false := by simp [numB, hz]
      rw [E]
      clear hz E
      go_enter Tryz.func82, Tryz.ntmps82
      go_wp2_with fail
      refine c1.mono ?_
      rintro e w1 ⟨rfl, b1⟩
      have B1 := (B0.trans (b1.mono B0.size)).alloc (Nat.le_trans B0.size b1.size) (.cells #[.string ⟨#[]⟩, .int .i64 0, .int .i64 0] 116)
      clear c1
      go_wp2
      go_ret
      exact ⟨ret_bool (by simp), B1⟩
  have b20 := bne h20
  by_cases h21 : k = 21
  · subst h21
    have c1 := quantOf_r n (w.alloc (.cells #[.int .i64 21, .int .i64 n, stv nm, .slice ao len cap, .int .i64 a] 25)) (hQ.below B0)
    cases hz : quantOf n with
    | some z =>
      rw [show quantsL.find? (fun x => (x.2 : Int) == n) = some z from hz] at c1
      unfold qnF at c1
      simp only at c1
      have E : numB 21 n = true := by simp [numB, hz]
      rw [E]
      clear hz E
      go_enter Tryz.func82, Tryz.ntmps82
      go_wp2_with fail
      refine c1.mono ?_
      rintro e w1 ⟨rfl, b1⟩
      have B1 := (B0.trans (b1.mono B0.size)).alloc (Nat.le_trans B0.size b1.size) (.cells #[stv z.1, .int .i64 (z.2 : Nat)] 128)
      clear c1
      go_wp2
      go_ret
      exact ⟨ret_bool (by simp), B1⟩
    | none =>
      rw [show quantsL.find? (fun x => (x.2 : Int) == n) = none from hz] at c1
      unfold qnF at c1
      simp only at c1
      have E : numB 21 n = false := by simp [numB, hz]
      rw [E]
      clear hz E
      go_enter Tryz.func82, Tryz.ntmps82
      go_wp2_with fail
      refine c1.mono ?_
      rintro e w1 ⟨rfl, b1⟩
      have B1 := (B0.trans (b1.mono B0.size)).alloc (Nat.le_trans B0.size b1.size) (.cells #[.string ⟨#[]⟩, .int .i64 0] 128)
      clear c1
      go_wp2
      go_ret
      exact ⟨ret_bool (by simp), B1⟩
  have b21 := bne h21
  have E : numB k n = (n == 0) := by simp [numB, b1, b3, b2, b20, b21]
  rw [E]
  go_enter Tryz.func82, Tryz.ntmps82
  go_wp2
  go_ret
  exact ⟨ret_bool (by simp), B0⟩
set_option maxRecDepth 100000 in
set_option maxHeartbeats 1000000 in
theorem name_r2 (k n : Int) (nm : List UInt8) (ao : Option Addr) (len cap : Nat) (a : Int) (w : World) (hW : Wd w) (hl : nm.length ≤ maxLen) :
    Calls Tryz.prog 83 #[.agg #[.int .i64 k, .int .i64 n, stv nm, .slice ao len cap, .int .i64 a]] w fun e w' => e = .returned (.bool (namB k nm)) ∧ Below w.heap.size w w' := by
  have B0 : Below w.heap.size w (w.alloc (.cells #[.int .i64 k, .int .i64 n, stv nm, .slice ao len cap, .int .i64 a] 25)) := (Below.refl _ w).alloc (Nat.le_refl _) _
  by_cases h4 : k = 4
  · subst h4
    have c1 := name_c ⟨nm.toArray⟩ (w.alloc (.cells #[.int .i64 4, .int .i64 n, stv nm, .slice ao len cap, .int .i64 a] 25)) (hW.below B0) (by show nm.toArray.size ≤ maxLen; simpa using hl)
    have E : namB 4 nm = nameB ((⟨nm.toArray⟩ : ByteArray).data.toList) := rfl
    rw [E]
    clear E
    go_enter Tryz.func83, Tryz.ntmps83
    go_wp2_with fail
    refine c1.mono ?_
    rintro e w1 ⟨rfl, b1⟩
    have B1 := B0.trans (b1.mono B0.size)
    clear c1
    go_wp2
    go_ret
    exact ⟨rfl, B1⟩
  have b4 := bne h4
  by_cases h23 : k = 23
  · subst h23
    have c1 := name_c ⟨nm.toArray⟩ (w.alloc (.cells #[.int .i64 23, .int .i64 n, stv nm, .slice ao len cap, .int .i64 a] 25)) (hW.below B0) (by show nm.toArray.size ≤ maxLen; simpa using hl)
    have E : namB 23 nm = nameB ((⟨nm.toArray⟩ : ByteArray).data.toList) := rfl
    rw [E]
    clear E
    go_enter Tryz.func83, Tryz.ntmps83
    go_wp2_with fail
    refine c1.mono ?_
    rintro e w1 ⟨rfl, b1⟩
    have B1 := B0.trans (b1.mono B0.size)
    clear c1
    go_wp2
    go_ret
    exact ⟨rfl, B1⟩
  have b23 := bne h23
  by_cases h21 : k = 21
  · subst h21
    have c1 := name_c ⟨nm.toArray⟩ (w.alloc (.cells #[.int .i64 21, .int .i64 n, stv nm, .slice ao len cap, .int .i64 a] 25)) (hW.below B0) (by show nm.toArray.size ≤ maxLen; simpa using hl)
    have E : namB 21 nm = nameB ((⟨nm.toArray⟩ : ByteArray).data.toList) := rfl
    rw [E]
    clear E
    go_enter Tryz.func83, Tryz.ntmps83
    go_wp2_with fail
    refine c1.mono ?_
    rintro e w1 ⟨rfl, b1⟩
    have B1 := B0.trans (b1.mono B0.size)
    clear c1
    go_wp2
    go_ret
    exact ⟨rfl, B1⟩
  have b21 := bne h21
  have E : namB k nm = (nm == []) := by simp [namB, b4, b23, b21]
  rw [E]
  go_enter Tryz.func83, Tryz.ntmps83
  go_wp2
  go_ret
  exact ⟨ret_bool (by simp), B0⟩
set_option maxRecDepth 100000 in
set_option maxHeartbeats 1000000 in
theorem kids_r (k n : Int) (nm : List UInt8) (ao : Option Addr) (len cap : Nat) (a : Int) (w : World) (hC : ClW w) (hO : OpW w) :
    Calls Tryz.prog 84 #[.agg #[.int .i64 k, .int .i64 n, stv nm, .slice ao len cap, .int .i64 a]] w fun e w' => e = .returned (.bool (kidB k n len)) ∧ Below w.heap.size w w' := by
  have B0 : Below w.heap.size w (w.alloc (.cells #[.int .i64 k, .int .i64 n, stv nm, .slice ao len cap, .int .i64 a] 25)) := (Below.refl _ w).alloc (Nat.le_refl _) _
  by_cases h1 : k = 1
  · subst h1
    have E : kidB 1 n len = ((len : Int) == 0) := rfl
    rw [E]
    go_enter Tryz.func84, Tryz.ntmps84
    go_wp2
    go_ret
    exact ⟨ret_bool (by simp), B0⟩
  have b1 := bne h1
  by_cases h2 : k = 2
  · subst h2
    have E : kidB 2 n len = ((len : Int) == 0) := rfl
    rw [E]
    go_enter Tryz.func84, Tryz.ntmps84
    go_wp2
    go_ret
    exact ⟨ret_bool (by simp), B0⟩
  have b2 := bne h2
  by_cases h3 : k = 3
  · subst h3
    have E : kidB 3 n len = ((len : Int) == 0) := rfl
    rw [E]
    go_enter Tryz.func84, Tryz.ntmps84
    go_wp2
    go_ret
    exact ⟨ret_bool (by simp), B0⟩
  have b3 := bne h3
  by_cases h4 : k = 4
  · subst h4
    have E : kidB 4 n len = ((len : Int) == 0) := rfl
    rw [E]
    go_enter Tryz.func84, Tryz.ntmps84
    go_wp2
    go_ret
    exact ⟨ret_bool (by simp), B0⟩
  have b4 := bne h4
  by_cases h22 : k = 22
  · subst h22
    have E : kidB 22 n len = ((len : Int) == 0) := rfl
    rw [E]
    go_enter Tryz.func84, Tryz.ntmps84
    go_wp2
    go_ret
    exact ⟨ret_bool (by simp), B0⟩
  have b22 := bne h22
  by_cases h23 : k = 23
  · subst h23
    have E : kidB 23 n len = ((len : Int) == 0) := rfl
    rw [E]
    go_enter Tryz.func84, Tryz.ntmps84
    go_wp2
    go_ret
    exact ⟨ret_bool (by simp), B0⟩
  have b23 := bne h23
  by_cases h6 : k = 6
  · subst h6
    have E : kidB 6 n len = ((len : Int) == 1) := rfl
    rw [E]
    go_enter Tryz.func84, Tryz.ntmps84
    go_wp2
    go_ret
    exact ⟨ret_bool (by simp), B0⟩
  have b6 := bne h6
  by_cases h7 : k = 7
  · subst h7
    have E : kidB 7 n len = ((len : Int) == 1) := rfl
    rw [E]
    go_enter Tryz.func84, Tryz.ntmps84
    go_wp2
    go_ret
    exact ⟨ret_bool (by simp), B0⟩
  have b7 := bne h7
  by_cases h24 : k = 24
  · subst h24
    have E : kidB 24 n len = ((len : Int) == 1) := rfl
    rw [E]
    go_enter Tryz.func84, Tryz.ntmps84
    go_wp2
    go_ret
    exact ⟨ret_bool (by simp), B0⟩
  have b24 := bne h24
  by_cases h21 : k = 21
  · subst h21
    have E : kidB 21 n len = ((len : Int) == 2) := rfl
    rw [E]
    go_enter Tryz.func84, Tryz.ntmps84
    go_wp2
    go_ret
    exact ⟨ret_bool (by simp), B0⟩
  have b21 := bne h21
  by_cases h19 : k = 19
  · subst h19
    have E : kidB 19 n len = ((len : Int) == 3) := rfl
    rw [E]
    go_enter Tryz.func84, Tryz.ntmps84
    go_wp2
    go_ret
    exact ⟨ret_bool (by simp), B0⟩
  have b19 := bne h19
  by_cases h20 : k = 20
  · subst h20
    have c1 := callOf_r n (w.alloc (.cells #[.int .i64 20, .int .i64 n, stv nm, .slice ao len cap, .int .i64 a] 25)) (hC.below B0)
    cases hz : callOf n with
    | some z =>
      rw [show callsL.find? (fun x => (x.2.1 : Int) == n) = some z from hz] at c1
      unfold clF at c1
      simp only at c1
      have E : kidB 20 n len = ((len : Int) == (z.2.2 : Nat)) := by simp [kidB, hz]
      rw [E]
      clear hz E
      go_enter Tryz.func84, Tryz.ntmps84
      go_wp2_with fail
      refine c1.mono ?_
      rintro e w1 ⟨rfl, b1⟩
      have B1 := (B0.trans (b1.mono B0.size)).alloc (Nat.le_trans B0.size b1.size) (.cells #[stv z.1, .int .i64 (z.2.1 : Nat), .int .i64 (z.2.2 : Nat)] 116)
      clear c1
      go_wp2
      go_ret
      exact ⟨ret_bool (by simp), B1⟩
    | none =>
      rw [show callsL.find? (fun x => (x.2.1 : Int) == n) = none from hz] at c1
      unfold clF at c1
      simp only at c1
      have E : kidB 20 n len = ((len : Int) == 0) := by simp [kidB, hz]
      rw [E]
      clear hz E
      go_enter Tryz.func84, Tryz.ntmps84
      go_wp2_with fail
      refine c1.mono ?_
      rintro e w1 ⟨rfl, b1⟩
      have B1 := (B0.trans (b1.mono B0.size)).alloc (Nat.le_trans B0.size b1.size) (.cells #[.string ⟨#[]⟩, .int .i64 0, .int .i64 0] 116)
      clear c1
      go_wp2
      go_ret
      exact ⟨ret_bool (by simp), B1⟩
  have b20 := bne h20
  by_cases h25 : k = 25
  · subst h25
    have E : kidB 25 n len = true := rfl
    rw [E]
    go_enter Tryz.func84, Tryz.ntmps84
    go_wp2
    go_ret
    exact ⟨ret_bool (by simp), B0⟩
  have b25 := bne h25
  have c1 := opOf_r k (w.alloc (.cells #[.int .i64 k, .int .i64 n, stv nm, .slice ao len cap, .int .i64 a] 25)) (hO.below B0)
  cases hz : opOf k with
  | some z =>
    rw [show opsL.find? (fun x => (x.2.1 : Int) == k) = some z from hz] at c1
    unfold opF at c1
    simp only at c1
    have E : kidB k n len = ((len : Int) == 2) := by simp [kidB, b1, b2, b3, b4, b22, b23, b6, b7, b24, b21, b19, b20, b25, hz]
    rw [E]
    clear hz E
    go_enter Tryz.func84, Tryz.ntmps84
    go_wp2_with fail
    refine c1.mono ?_
    rintro e w1 ⟨rfl, b1⟩
    have B1 := (B0.trans (b1.mono B0.size)).alloc (Nat.le_trans B0.size b1.size) (.cells #[stv z.1, .int .i64 (z.2.1 : Nat), .int .i64 (z.2.2.1 : Nat), .int .i64 (z.2.2.2.1 : Nat), .int .i64 (z.2.2.2.2 : Nat)] 132)
    clear c1
    go_wp2
    go_ret
    exact ⟨ret_bool (by simp), B1⟩
  | none =>
    rw [show opsL.find? (fun x => (x.2.1 : Int) == k) = none from hz] at c1
    unfold opF at c1
    simp only at c1
    have E : kidB k n len = false := by simp [kidB, b1, b2, b3, b4, b22, b23, b6, b7, b24, b21, b19, b20, b25, hz]
    rw [E]
    clear hz E
    go_enter Tryz.func84, Tryz.ntmps84
    go_wp2_with fail
    refine c1.mono ?_
    rintro e w1 ⟨rfl, b1⟩
    have B1 := (B0.trans (b1.mono B0.size)).alloc (Nat.le_trans B0.size b1.size) (.cells #[.string ⟨#[]⟩, .int .i64 0, .int .i64 0, .int .i64 0, .int .i64 0] 132)
    clear c1
    go_wp2
    go_ret
    exact ⟨ret_bool (by simp), B1⟩
end Go.Proofs.YtojleoionpnjpaaGreatDoor
namespace Go.Proofs.YtojleoionpnjpaaGreatDoor
open Go.ChangeShapes Go.WideShapes Go.ChangeAt Go.RowKit
set_option linter.unusedVariables false

theorem RdS.next {w : World} {rb o q : Nat} {x : Tk} {r : List Tk} (h : RdS w rb o q (x :: r)) : ∃ g cap len i, g < w.heap.size ∧ g < rb ∧ i < len ∧ len ≤ 3000 ∧ len ≤ cap ∧ cap ≤ maxLen ∧ w.cell? ⟨rb, 0, none⟩ = some (.slice (some ⟨g, 0, none⟩) len cap) ∧ w.cell? ⟨rb, 1, none⟩ = some (.int .i64 ((i : Nat) : Int)) ∧ w.cell? ⟨rb, 2, none⟩ = some (.int .i64 (o : Nat)) ∧ w.cell? ⟨rb, 3, none⟩ = some (.int .i64 (q : Nat)) ∧ w.cell? ⟨g, i * 4, none⟩ = some (.int .i64 (x.k : Nat)) ∧ w.cell? ⟨g, i * 4 + 1, none⟩ = some (.int .i64 x.n) ∧ w.cell? ⟨g, i * 4 + 2, none⟩ = some (stv x.t) ∧ w.cell? ⟨g, i * 4 + 3, none⟩ = some (.int .i64 (x.a : Nat)) ∧ (∀ j, w.frozen? ⟨rb, j, none⟩ = false) ∧ RdS (w.setCell ⟨rb, 1, none⟩ (.int .i64 ((i : Int) + 1))) rb o q r := by
  have hlt := h.lt
  obtain ⟨g, cap, all, i, h1, h2, h4, h5, h6, h7, h8, h9⟩ := h
  have hi : i < all.length := by
    by_cases hi : i < all.length
    · exact hi
    · rw [List.drop_eq_nil_of_le (by omega)] at h5; cases h5
  have hx : all[i]? = some x := by
    have := congrArg List.head? h5
    simpa [List.head?_drop] using this
  obtain ⟨t0, t1, t2, t3⟩ := tkcells_at all i x hx
  refine ⟨g, cap, all.length, i, (by omega), (by omega), hi, h7, h8, h9, ?_, ?_, ?_, ?_, h4 _ _ t0, h4 _ _ t1, h4 _ _ t2, h4 _ _ t3, fun j => frozen_of_row w rb j _ _ h1, ?_⟩
  · simp [cell_of_row w rb _ _ _ (0, 0) h1]
  · simp [cell_of_row w rb _ _ _ (0, 0) h1]
  · simp [cell_of_row w rb _ _ _ (0, 0) h1]
  · simp [cell_of_row w rb _ _ _ (0, 0) h1]
  · have hB := Blk.set (w := w) (o := fun _ => 0) (i := 0) (b := rb) ⟨h1, rfl⟩ 1 (.int .i64 (((i + 1 : Nat) : Nat) : Int))
    rw [show (((i + 1 : Nat) : Nat) : Int) = (i : Int) + 1 by omega] at hB
    refine ⟨g, cap, all, i + 1, by rw [show (((i + 1 : Nat) : Nat) : Int) = (i : Int) + 1 by omega]; exact hB.1, h2, fun j u hu => ?_, ?_, hi, h7, h8, h9⟩
    · exact (World.cell?_of_block (a := ⟨g, j, none⟩) (heap_setCell_other w ⟨rb, 1, none⟩ g _ (show g ≠ rb by omega))).trans (h4 j u hu)
    · have : all.drop (i + 1) = (all.drop i).drop 1 := by simp [List.drop_drop]
      rw [this, h5]
      rfl
end Go.Proofs.YtojleoionpnjpaaGreatDoor
namespace Go.Proofs.YtojleoionpnjpaaGreatDoor
open Go.ChangeShapes Go.WideShapes Go.ChangeAt Go.RowKit
set_option linter.unusedVariables false

theorem Below.keep {rb : Nat} {w w' : World} (h : Below w.heap.size w w') : Keep rb w w' := Keep.ofBelow h
/-- The number of openings turns. -/
theorem RdS.cells {w : World} {rb o q : Nat} {ts : List Tk} (h : RdS w rb o q ts) : w.cell? ⟨rb, 2, none⟩ = some (.int .i64 (o : Nat)) ∧ w.cell? ⟨rb, 3, none⟩ = some (.int .i64 (q : Nat)) ∧ (∀ j, w.frozen? ⟨rb, j, none⟩ = false) ∧ (∀ o' : Nat, RdS (w.setCell ⟨rb, 2, none⟩ (.int .i64 (o' : Nat))) rb o' q ts) ∧ (∀ q' : Nat, RdS (w.setCell ⟨rb, 3, none⟩ (.int .i64 (q' : Nat))) rb o q' ts) := by
  obtain ⟨g, cap, all, i, h1, h2, h4, h5⟩ := h
  refine ⟨by simp [cell_of_row w rb _ _ _ (0, 0) h1], by simp [cell_of_row w rb _ _ _ (0, 0) h1], fun j => frozen_of_row w rb j _ _ h1, fun o' => ?_, fun q' => ?_⟩
  · have hB := Blk.set (w := w) (o := fun _ => 0) (i := 0) (b := rb) ⟨h1, rfl⟩ 2 (.int .i64 (o' : Nat))
    exact ⟨g, cap, all, i, hB.1, h2, fun j u hu => (World.cell?_of_block (a := ⟨g, j, none⟩) (heap_setCell_other w ⟨rb, 2, none⟩ g _ (show g ≠ rb by omega))).trans (h4 j u hu), h5⟩
  · have hB := Blk.set (w := w) (o := fun _ => 0) (i := 0) (b := rb) ⟨h1, rfl⟩ 3 (.int .i64 (q' : Nat))
    exact ⟨g, cap, all, i, hB.1, h2, fun j u hu => (World.cell?_of_block (a := ⟨g, j, none⟩) (heap_setCell_other w ⟨rb, 3, none⟩ g _ (show g ≠ rb by omega))).trans (h4 j u hu), h5⟩
end Go.Proofs.YtojleoionpnjpaaGreatDoor
namespace Go.Proofs.YtojleoionpnjpaaGreatDoor
open Go.ChangeShapes Go.WideShapes Go.ChangeAt Go.RowKit
set_option linter.unusedVariables false

/-- The three tables lie ahead of the reader. -/
structure Tabs (rb : Nat) (w : World) : Prop where
  op : OpW w
  cl : ClW w
  qn : QnW w
  g1 : 3 < rb
  g2 : 0 < rb
  g3 : 2 < rb
theorem Tabs.keep {rb : Nat} {w w' : World} (h : Tabs rb w) (k : Keep rb w w') : Tabs rb w' := by
  have l1 := h.op.lt
  have l2 := h.cl.lt
  have l3 := h.qn.lt
  obtain ⟨⟨t1, f1, h1⟩, ⟨t2, f2, h2⟩, ⟨t3, f3, h3⟩, g1, g2, g3⟩ := h
  exact ⟨⟨t1, f1, (k.block _ l1 (Nat.ne_of_lt g1)).trans h1⟩, ⟨t2, f2, (k.block _ l2 (Nat.ne_of_lt g2)).trans h2⟩, ⟨t3, f3, (k.block _ l3 (Nat.ne_of_lt g3)).trans h3⟩, g1, g2, g3⟩
/-- A tree's empty cells. -/
abbrev exZ : Obj := .cells #[.int .i64 0, .int .i64 0, .string ⟨#[]⟩, .slice none 0 0, .int .i64 0] 25
/-- Five cells are written. -/
theorem set5k {w : World} {b : Nat} {a0 a1 a2 a3 a4 : Value} (b0 b1 b2 b3 b4 : Value) {t : TypeId} (h : w.heap[b]? = some (.cells #[a0, a1, a2, a3, a4] t (0, 0))) : (((((w.setCell ⟨b, 0, none⟩ b0).setCell ⟨b, 1, none⟩ b1).setCell ⟨b, 2, none⟩ b2).setCell ⟨b, 3, none⟩ b3).setCell ⟨b, 4, none⟩ b4).heap[b]? = some (.cells #[b0, b1, b2, b3, b4] t (0, 0)) := by
  have h0 : Blk w (fun _ => 0) 0 b (.cells #[a0, a1, a2, a3, a4] t (0, 0)) := ⟨h, rfl⟩
  exact (((((h0.set 0 b0).set 1 b1).set 2 b2).set 3 b3).set 4 b4).1
theorem Keep.set5 {rb : Nat} {a w : World} (h : Keep rb a w) {b : Nat} (hb : a.heap.size ≤ b) (b0 b1 b2 b3 b4 : Value) : Keep rb a (((((w.setCell ⟨b, 0, none⟩ b0).setCell ⟨b, 1, none⟩ b1).setCell ⟨b, 2, none⟩ b2).setCell ⟨b, 3, none⟩ b3).setCell ⟨b, 4, none⟩ b4) := ((((h.set ⟨b, 0, none⟩ b0 (.inl hb)).set ⟨b, 1, none⟩ b1 (.inl hb)).set ⟨b, 2, none⟩ b2 (.inl hb)).set ⟨b, 3, none⟩ b3 (.inl hb)).set ⟨b, 4, none⟩ b4 (.inl hb)
theorem RdS.set5 {w : World} {rb o q : Nat} {ts : List Tk} (h : RdS w rb o q ts) {b : Nat} (hb : rb < b) (b0 b1 b2 b3 b4 : Value) : RdS (((((w.setCell ⟨b, 0, none⟩ b0).setCell ⟨b, 1, none⟩ b1).setCell ⟨b, 2, none⟩ b2).setCell ⟨b, 3, none⟩ b3).setCell ⟨b, 4, none⟩ b4) rb o q ts := ((((h.set ⟨b, 0, none⟩ b0 hb).set ⟨b, 1, none⟩ b1 hb).set ⟨b, 2, none⟩ b2 hb).set ⟨b, 3, none⟩ b3 hb).set ⟨b, 4, none⟩ b4 hb
theorem Sl.set5 {n : Nat} {w : World} {f : Fs} {ao : Option Addr} (h : Sl w (Nw n) f ao) {b : Nat} (hb : b < n) (b0 b1 b2 b3 b4 : Value) : Sl (((((w.setCell ⟨b, 0, none⟩ b0).setCell ⟨b, 1, none⟩ b1).setCell ⟨b, 2, none⟩ b2).setCell ⟨b, 3, none⟩ b3).setCell ⟨b, 4, none⟩ b4) (Nw n) f ao := ((((h.setN ⟨b, 0, none⟩ b0 hb).setN ⟨b, 1, none⟩ b1 hb).setN ⟨b, 2, none⟩ b2 hb).setN ⟨b, 3, none⟩ b3 hb).setN ⟨b, 4, none⟩ b4 hb
/-- All that a caller's box of five cells gives. -/
theorem box5 {w : World} {b : Nat} {a0 a1 a2 a3 a4 : Value} {t : TypeId} (h : w.heap[b]? = some (.cells #[a0, a1, a2, a3, a4] t (0, 0))) :
    w.cell? ⟨b, 0, none⟩ = some a0 ∧ w.cell? ⟨b, 1, none⟩ = some a1 ∧ w.cell? ⟨b, 2, none⟩ = some a2 ∧ w.cell? ⟨b, 3, none⟩ = some a3 ∧ w.cell? ⟨b, 4, none⟩ = some a4 ∧ ∀ j, w.frozen? ⟨b, j, none⟩ = false := Blk.cells5 (o := fun _ => 0) (i := 0) ⟨h, rfl⟩
theorem Keep.blk {rb : Nat} {w w' : World} (k : Keep rb w w') {b : Nat} {ob : Obj} (h : w.heap[b]? = some ob) (hb : b ≠ rb) : w'.heap[b]? = some ob := (k.block b (lt_of_block h) hb).trans h
end Go.Proofs.YtojleoionpnjpaaGreatDoor
namespace Go.Proofs.YtojleoionpnjpaaGreatDoor
open Go.ChangeShapes Go.WideShapes Go.ChangeAt Go.RowKit
set_option linter.unusedVariables false

/-- A new slice of trees. -/
theorem Sl.fresh {w : World} {n : Nat} {f : Fs} (xs : List Value) (t : TypeId) (h : Fc w (Nw n) f xs) (hn : n ≤ w.heap.size) : Sl (w.alloc (.cells xs.toArray t)) (Nw n) f (some ⟨w.heap.size, 0, none⟩) := by
  refine Sl.of hn (by simp) (fun j u hu => ?_) (h.allocN _)
  rw [Nat.zero_add]
  rw [cell_of_row _ w.heap.size j _ t (0, 0) (heap_alloc_new w _)]
  simpa using hu
theorem exV_out (e : Ex) (ao : Option Addr) (cap : Nat) : exV e ao cap = .agg #[.int .i64 e.k, .int .i64 e.n, stv e.nm, .slice ao e.kids.len cap, .int .i64 e.a] := rfl
end Go.Proofs.YtojleoionpnjpaaGreatDoor
namespace Go.Proofs.YtojleoionpnjpaaGreatDoor
open Go.ChangeShapes Go.WideShapes Go.ChangeAt Go.RowKit
set_option linter.unusedVariables false

/-- A slice of trees that grows: in a block of its own; all below it lies elsewhere. -/
def AccG (w : World) (n0 : Nat) (acc : Fs) (g cap : Nat) (xs : List Value) : Prop :=
  n0 ≤ g ∧ w.ownsRow 0 25 5 (.slice (some ⟨g, 0, none⟩) acc.len cap) acc.len xs ∧ Fc w (fun b => n0 ≤ b ∧ b ≠ g) acc xs
def Acc (w : World) (n0 : Nat) (acc : Fs) (v : Value) : Prop := ∃ g cap xs, v = .slice (some ⟨g, 0, none⟩) acc.len cap ∧ AccG w n0 acc g cap xs
def lab1 (g : Nat) : Nat → Nat := fun b => if b = g then 1 else 0
theorem AccG.row {w : World} {n0 : Nat} {acc : Fs} {g cap : Nat} {xs : List Value} (h : AccG w n0 acc g cap xs) : Row w (lab1 g) 1 25 5 (.slice (some ⟨g, 0, none⟩) acc.len cap) acc.len xs :=
  ⟨h.2.1, fun k hk => by simp [Value.ownBlock] at hk; subst hk; simp [lab1]⟩
theorem Acc.one {w : World} {n0 : Nat} {e : Ex} {ao : Option Addr} (cap : Nat) (h : Sl w (Nw n0) e.kids ao) (hn : n0 ≤ w.heap.size) :
    Acc (w.alloc (.cells #[.int .i64 e.k, .int .i64 e.n, stv e.nm, .slice ao e.kids.len cap, .int .i64 e.a] 25)) n0 (one e) (.slice (some ⟨w.heap.size, 0, none⟩) 1 1) := by
  refine ⟨w.heap.size, 1, _, rfl, hn, World.ownsRow_lit w _ 1 (Nat.zero_le _) (by unfold maxLen; omega) (by simp), ?_⟩
  exact (Fc.one cap h).mono (fun i hp hl => Below.heap_alloc w _ i hl) (by simp) (fun i hp hl => ⟨hp, Nat.ne_of_lt hl⟩)
theorem Acc.keep {rb n0 : Nat} {w w' : World} {acc : Fs} {v : Value} (h : Acc w n0 acc v) (k : Keep rb w w') (hn : rb < n0) : Acc w' n0 acc v := by
  obtain ⟨g, cap, xs, rfl, hg, ho, hf⟩ := h
  have r : Row w (fun b => if b = rb then 7 else 1) 1 25 5 (.slice (some ⟨g, 0, none⟩) acc.len cap) acc.len xs := ⟨ho, fun j hj => by simp [Value.ownBlock] at hj; subst hj; show (if g = rb then 7 else 1) = 1; rw [if_neg (by omega)]⟩
  have s : Step (fun x => x = 7) w (fun b => if b = rb then 7 else 1) w' (fun b => if b = rb then 7 else 1) := ⟨k.os, k.tape, k.output, k.size, fun _ _ => rfl, fun j hj hn => k.block j hj (fun e => hn (by simp [e]))⟩
  exact ⟨g, cap, xs, rfl, hg, (r.step s (by decide)).1, hf.mono (fun i hp hl => k.block i hl (by have := hp.1; omega)) k.size (fun _ h _ => h)⟩
theorem Acc.sl {w : World} {n0 : Nat} {acc : Fs} {v : Value} (h : Acc w n0 acc v) : ∃ ao cap, v = .slice ao acc.len cap ∧ Sl w (Nw n0) acc ao := by
  obtain ⟨g, cap, xs, rfl, h⟩ := h
  refine ⟨_, cap, rfl, ?_⟩
  by_cases h0 : 0 < acc.len
  · obtain ⟨g', cap', hv, _, _, _, hlt, hc, _⟩ := h.row.pos h0
    simp only [Value.slice.injEq, Option.some.injEq, Addr.mk.injEq, true_and, and_true] at hv
    obtain ⟨rfl, rfl⟩ := hv
    have hl := h.row.len
    refine Sl.of h.1 hlt (fun j u hu => ?_) (h.2.2.mono (fun _ _ _ => rfl) (Nat.le_refl _) (fun _ hp _ => hp.1))
    rw [Nat.zero_add, hc j ?_]
    · exact hu
    · rw [← hl]
      by_cases hj : j < xs.length
      · exact hj
      · rw [List.getElem?_eq_none (by omega)] at hu
        cases hu
  · refine .inl ?_
    cases acc using Fs.on with
    | nil => rfl
    | cons k n nm a ks r => simp [Fs.len] at h0
theorem Keep.step1 {rb g : Nat} {a w w2 : World} {o2 : Nat → Nat} (K : Keep rb a w) (s : Step (fun x => x = 1) w (lab1 g) w2 o2) (hg : a.heap.size ≤ g) : Keep rb a w2 :=
  ⟨s.os.trans K.os, s.tape.trans K.tape, s.output.trans K.output, Nat.le_trans K.size s.size, fun k hk hn => (s.block k (Nat.lt_of_lt_of_le hk K.size) (by unfold lab1; rw [if_neg (by omega)]; decide)).trans (K.block k hk hn)⟩
theorem RdS.step1 {rb g o q : Nat} {ts : List Tk} {w w2 : World} {o2 : Nat → Nat} (h : RdS w rb o q ts) (s : Step (fun x => x = 1) w (lab1 g) w2 o2) (hg : rb < g) : RdS w2 rb o q ts := by
  have hlt := h.lt
  obtain ⟨g', cap, all, i, h1, h2, h4, h5⟩ := h
  exact ⟨g', cap, all, i, (s.block rb hlt (by unfold lab1; rw [if_neg (by omega)]; decide)).trans h1, h2, fun j u hu => (World.cell?_of_block (a := ⟨g', j, none⟩) (s.block g' (by omega) (by unfold lab1; rw [if_neg (by omega)]; decide))).trans (h4 j u hu), h5⟩
/-- One more. -/
theorem Acc.push {w w2 : World} {o2 : Nat → Nat} {n0 n1 g cap g2 c2 : Nat} {acc : Fs} {xs : List Value} {e : Ex} {ao : Option Addr} {ce : Nat} (h : AccG w n0 acc g cap xs) (S : Sl w (Nw n1) e.kids ao) (hn1 : g < n1) (hw : n0 ≤ w.heap.size)
    (s : Step (fun x => x = 1) w (lab1 g) w2 o2) (r : Row w2 o2 1 25 5 (.slice (some ⟨g2, 0, none⟩) (acc.len + 1) c2) (acc.len + 1) (xs ++ [.int .i64 e.k, .int .i64 e.n, stv e.nm, .slice ao e.kids.len ce, .int .i64 e.a])) :
    Acc w2 n0 (acc.snoc e) (.slice (some ⟨g2, 0, none⟩) (acc.len + 1) c2) := by
  have hl : (acc.snoc e).len = acc.len + 1 := Fs.len_snoc acc e
  have h2 : o2 g2 = 1 := r.2 g2 rfl
  have hlt2 : g2 < w2.heap.size := r.lt rfl
  have hg2 : n0 ≤ g2 := by
    by_cases hlt : g2 < w.heap.size
    · have := (s.lab g2 hlt).symm.trans h2
      unfold lab1 at this
      by_cases e : g2 = g
      · rw [e]; exact h.1
      · rw [if_neg e] at this; cases this
    · omega
  have hb : ∀ k, (n0 ≤ k ∧ k ≠ g) → k < w.heap.size → w2.heap[k]? = w.heap[k]? := fun k hk hl => s.block k hl (by unfold lab1; rw [if_neg hk.2]; decide)
  have hq : ∀ k, (n0 ≤ k ∧ k ≠ g) → k < w.heap.size → (n0 ≤ k ∧ k ≠ g2) := fun k hk hl => ⟨hk.1, fun e => by
    have := (s.lab k hl).symm.trans (e ▸ h2)
    unfold lab1 at this
    rw [if_neg hk.2] at this
    cases this⟩
  refine ⟨g2, c2, xs ++ [.int .i64 e.k, .int .i64 e.n, stv e.nm, .slice ao e.kids.len ce, .int .i64 e.a], by rw [hl], hg2, by rw [hl]; exact r.1, ?_⟩
  have F1 := h.2.2.mono hb s.size hq
  have S1 : Sl w2 (fun b => n0 ≤ b ∧ b ≠ g2) e.kids ao := S.mono (fun k hk hl => hb k ⟨by have hk : n1 ≤ k := hk; have := h.1; omega, by have hk : n1 ≤ k := hk; omega⟩ hl) s.size (fun k hk hl => hq k ⟨by have hk : n1 ≤ k := hk; have := h.1; omega, by have hk : n1 ≤ k := hk; omega⟩ hl)
  exact F1.app (Fc.one ce S1)
theorem infoExpr : (Tryz.prog.info? 25).map (fun i => (i.zero, i.size, i.bytes)) = some (some (.agg #[.int .i64 0, .int .i64 0, .string ⟨#[]⟩, .slice none 0 0, .int .i64 0]), 5, 64) := by kernel_rfl
end Go.Proofs.YtojleoionpnjpaaGreatDoor
