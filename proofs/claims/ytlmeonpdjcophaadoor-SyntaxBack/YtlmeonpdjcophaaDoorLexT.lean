/- Does a piece of package lex go on with a rune? -/
import Derived.Test.YtlmeonpdjcophaaDoorLexC
namespace Go.Proofs.YtlmeonpdjcophaaDoor
open Go.ChangeShapes Go.WideShapes Go.ChangeAt Go.RowKit
set_option linter.unusedVariables false

theorem str_ne {s t : ByteArray} (h : s ≠ t) : (s.toList == t.toList) = false := by
  rw [beq_eq_false_iff_ne, ByteArray.toList_eq, ByteArray.toList_eq]
  exact fun e => h (ByteArray.ext (Array.toList_inj.1 e))
theorem str_full {s : ByteArray} (h : ¬ s.size = 0) : s.toList.isEmpty = false := by
  rw [ByteArray.toList_eq, List.isEmpty_eq_false_iff]
  intro e
  have h2 : s.data.size = 0 := by rw [← Array.length_toList, e]; rfl
  exact h h2
theorem bytes_eq {s t : ByteArray} : s.data.toList = t.data.toList ↔ s = t :=
  ⟨fun e => ByteArray.ext (Array.toList_inj.1 e), fun e => by rw [e]⟩
/-- A piece, as a value. -/
abbrev pcv (k : Nat) (t : ByteArray) (a : Nat) : Value := .agg #[.int .i64 (k : Nat), .string t, .int .i64 (a : Nat)]
theorem str_nel {t : ByteArray} {l : List UInt8} (h : ¬ t.data.toList = l) : ¬ t.toList = l := by rw [ByteArray.toList_eq]; exact h
theorem b0 (w : World) : Below w.heap.size w w := Below.refl _ _
theorem b1 (w : World) (o : Obj) : Below w.heap.size w (w.alloc o) := (Below.refl _ w).alloc (Nat.le_refl _) _

theorem takes_0 (t : ByteArray) (a r : Nat) (w : World) (hr : r ≤ 2147483647) :
    Calls Tryd.prog 42 #[pcv 0 t a, .int .i32 (r : Nat)] w fun e w' => e = .returned (.bool (tks 0 t.data.toList r)) ∧ Below w.heap.size w w' := by
  go_enter Tryd.func42, Tryd.ntmps42
  go_wp2_with (go_at_call 55; refine (blk_c r _ hr).mono ?_; rintro e w1 ⟨rfl, rfl⟩)
  go_ret
  exact ⟨rfl, b1 _ _⟩
theorem takes_2 (t : ByteArray) (a r : Nat) (w : World) (hr : r ≤ 2147483647) :
    Calls Tryd.prog 42 #[pcv 2 t a, .int .i32 (r : Nat)] w fun e w' => e = .returned (.bool (tks 2 t.data.toList r)) ∧ Below w.heap.size w w' := by
  go_enter Tryd.func42, Tryd.ntmps42
  go_wp2_with (go_at_call 57; refine (dig_c r _ hr).mono ?_; rintro e w1 ⟨rfl, rfl⟩)
  go_ret
  exact ⟨rfl, b1 _ _⟩
theorem takes_4 (t : ByteArray) (a r : Nat) (w : World) (hr : r ≤ 2147483647) :
    Calls Tryd.prog 42 #[pcv 4 t a, .int .i32 (r : Nat)] w fun e w' => e = .returned (.bool (tks 4 t.data.toList r)) ∧ Below w.heap.size w w' := by
  go_enter Tryd.func42, Tryd.ntmps42
  go_wp2
  go_ret
  exact ⟨rfl, b1 _ _⟩
theorem takes_1 (t : ByteArray) (a r : Nat) (w : World) (hr : r ≤ 2147483647) :
    Calls Tryd.prog 42 #[pcv 1 t a, .int .i32 (r : Nat)] w fun e w' => e = .returned (.bool (tks 1 t.data.toList r)) ∧ Below w.heap.size w w' := by
  have e0 : tks 1 t.data.toList r = (ltr r || dig r || r == 95) := rfl
  rw [e0]
  clear e0
  cases h1 : ltr r
  · cases h2 : dig r
    · by_cases h3 : r = 95
      · subst h3
        go_enter Tryd.func42, Tryd.ntmps42
        go_wp2_with (first | (go_at_call 56; refine (ltr_c 95 _ hr).mono ?_; rw [h1]; rintro e w1 ⟨rfl, rfl⟩) | (go_at_call 57; refine (dig_c 95 _ hr).mono ?_; rw [h2]; rintro e w1 ⟨rfl, rfl⟩))
        go_ret
        exact ⟨rfl, b1 _ _⟩
      · have g3 : ¬ (r : Int) = 95 := by omega
        have g4 : (r == 95) = false := by simpa using h3
        rw [g4]
        clear g4 h3
        go_enter Tryd.func42, Tryd.ntmps42
        go_wp2_with (first | (go_at_call 56; refine (ltr_c r _ hr).mono ?_; rw [h1]; rintro e w1 ⟨rfl, rfl⟩) | (go_at_call 57; refine (dig_c r _ hr).mono ?_; rw [h2]; rintro e w1 ⟨rfl, rfl⟩))
        go_ret
        exact ⟨by simp [g3], b1 _ _⟩
    · go_enter Tryd.func42, Tryd.ntmps42
      go_wp2_with (first | (go_at_call 56; refine (ltr_c r _ hr).mono ?_; rw [h1]; rintro e w1 ⟨rfl, rfl⟩) | (go_at_call 57; refine (dig_c r _ hr).mono ?_; rw [h2]; rintro e w1 ⟨rfl, rfl⟩))
      go_ret
      exact ⟨by simp, b1 _ _⟩
  · go_enter Tryd.func42, Tryd.ntmps42
    go_wp2_with (first | (go_at_call 56; refine (ltr_c r _ hr).mono ?_; rw [h1]; rintro e w1 ⟨rfl, rfl⟩) | (go_at_call 57; refine (dig_c r _ hr).mono ?_; rw [h2]; rintro e w1 ⟨rfl, rfl⟩))
    go_ret
    exact ⟨by simp, b1 _ _⟩
theorem takes_3 (t : ByteArray) (a r : Nat) (w : World) (hr : r ≤ 2147483647) :
    Calls Tryd.prog 42 #[pcv 3 t a, .int .i32 (r : Nat)] w fun e w' => e = .returned (.bool (tks 3 t.data.toList r)) ∧ Below w.heap.size w w' := by
  have e0 : tks 3 t.data.toList r = (r == 61 && (t.data.toList == [33] || t.data.toList == [60])) := rfl
  rw [e0]
  clear e0
  by_cases h3 : r = 61
  · subst h3
    by_cases h1 : t = ⟨#[33]⟩
    · subst h1
      go_enter Tryd.func42, Tryd.ntmps42
      go_wp2
      go_ret
      exact ⟨by simp, b1 _ _⟩
    · have g1 : (t.data.toList == [33]) = false := by rw [beq_eq_false_iff_ne]; exact fun e => h1 (bytes_eq.1 e)
      have n1 : ¬ t.toList = [33] := str_nel fun e => h1 (bytes_eq.1 e)
      by_cases h2 : t = ⟨#[60]⟩
      · subst h2
        clear h1 g1 n1
        go_enter Tryd.func42, Tryd.ntmps42
        go_wp2
        go_ret
        exact ⟨by simp, b1 _ _⟩
      · have g2 : (t.data.toList == [60]) = false := by rw [beq_eq_false_iff_ne]; exact fun e => h2 (bytes_eq.1 e)
        have n2 : ¬ t.toList = [60] := str_nel fun e => h2 (bytes_eq.1 e)
        rw [g1, g2]
        clear g1 g2
        go_enter Tryd.func42, Tryd.ntmps42
        go_wp2
        go_ret
        exact ⟨by simp [n1, n2], b1 _ _⟩
  · have g3 : ¬ (r : Int) = 61 := by omega
    have g4 : (r == 61) = false := by simpa using h3
    rw [g4]
    clear g4 h3
    go_enter Tryd.func42, Tryd.ntmps42
    go_wp2
    go_ret
    exact ⟨by simp, b1 _ _⟩
theorem takes_c (k : Nat) (t : ByteArray) (a r : Nat) (w : World) (hk : k ≤ 4) (hr : r ≤ 2147483647) :
    Calls Tryd.prog 42 #[pcv k t a, .int .i32 (r : Nat)] w fun e w' => e = .returned (.bool (tks k t.data.toList r)) ∧ Below w.heap.size w w' := by
  match k, hk with
  | 0, _ => exact takes_0 t a r w hr
  | 1, _ => exact takes_1 t a r w hr
  | 2, _ => exact takes_2 t a r w hr
  | 3, _ => exact takes_3 t a r w hr
  | 4, _ => exact takes_4 t a r w hr
end Go.Proofs.YtlmeonpdjcophaaDoor
