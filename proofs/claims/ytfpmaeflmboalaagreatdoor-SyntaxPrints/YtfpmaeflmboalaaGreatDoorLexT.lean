/- Does a piece of package lex go on with a rune? -/
import Derived.Test.YtfpmaeflmboalaaGreatDoorMem
import Derived.Test.YtfpmaeflmboalaaGreatDoorRows
namespace Go.Proofs.YtfpmaeflmboalaaGreatDoor
open Go.ChangeShapes Go.WideShapes Go.ChangeAt Go.RowKit
set_option linter.unusedVariables false

theorem blk_c (r : Nat) (w : World) (hr : r ≤ 2147483647) :
    Calls Tryz.prog 87 #[.int .i32 (r : Nat)] w fun e w' => e = .returned (.bool (blk r)) ∧ w' = w := by
  by_cases h0 : r = 32
  · subst h0
    have e0 : blk 32 = true := by rfl
    rw [e0]
    clear e0
    go_enter Tryz.func87, Tryz.ntmps87
    go_wp2
    go_ret
    exact ⟨rfl, rfl⟩
  by_cases h1 : r = 9
  · subst h1
    clear h0
    have e0 : blk 9 = true := by rfl
    rw [e0]
    clear e0
    go_enter Tryz.func87, Tryz.ntmps87
    go_wp2
    go_ret
    exact ⟨rfl, rfl⟩
  by_cases h2 : r = 10
  · subst h2
    clear h0
    clear h1
    have e0 : blk 10 = true := by rfl
    rw [e0]
    clear e0
    go_enter Tryz.func87, Tryz.ntmps87
    go_wp2
    go_ret
    exact ⟨rfl, rfl⟩
  by_cases h3 : r = 13
  · subst h3
    clear h0
    clear h1
    clear h2
    have e0 : blk 13 = true := by rfl
    rw [e0]
    clear e0
    go_enter Tryz.func87, Tryz.ntmps87
    go_wp2
    go_ret
    exact ⟨rfl, rfl⟩
  have e0 : blk r = false := by simp [blk]; omega
  have g0 : ¬ (r : Int) = 32 := by omega
  have g1 : ¬ (r : Int) = 9 := by omega
  have g2 : ¬ (r : Int) = 10 := by omega
  have g3 : ¬ (r : Int) = 13 := by omega
  clear h0 h1 h2 h3
  rw [e0]
  clear e0
  go_enter Tryz.func87, Tryz.ntmps87
  go_wp2
  go_ret
  refine ⟨?_, rfl⟩
  simp [g0, g1, g2, g3]
theorem sgn_c (r : Nat) (w : World) (hr : r ≤ 2147483647) :
    Calls Tryz.prog 90 #[.int .i32 (r : Nat)] w fun e w' => e = .returned (.bool (sgn r)) ∧ w' = w := by
  by_cases h0 : r = 40
  · subst h0
    have e0 : sgn 40 = true := by rfl
    rw [e0]
    clear e0
    go_enter Tryz.func90, Tryz.ntmps90
    go_wp2
    go_ret
    exact ⟨rfl, rfl⟩
  by_cases h1 : r = 41
  · subst h1
    clear h0
    have e0 : sgn 41 = true := by rfl
    rw [e0]
    clear e0
    go_enter Tryz.func90, Tryz.ntmps90
    go_wp2
    go_ret
    exact ⟨rfl, rfl⟩
  by_cases h2 : r = 123
  · subst h2
    clear h0
    clear h1
    have e0 : sgn 123 = true := by rfl
    rw [e0]
    clear e0
    go_enter Tryz.func90, Tryz.ntmps90
    go_wp2
    go_ret
    exact ⟨rfl, rfl⟩
  by_cases h3 : r = 125
  · subst h3
    clear h0
    clear h1
    clear h2
    have e0 : sgn 125 = true := by rfl
    rw [e0]
    clear e0
    go_enter Tryz.func90, Tryz.ntmps90
    go_wp2
    go_ret
    exact ⟨rfl, rfl⟩
  by_cases h4 : r = 44
  · subst h4
    clear h0
    clear h1
    clear h2
    clear h3
    have e0 : sgn 44 = true := by rfl
    rw [e0]
    clear e0
    go_enter Tryz.func90, Tryz.ntmps90
    go_wp2
    go_ret
    exact ⟨rfl, rfl⟩
  by_cases h5 : r = 58
  · subst h5
    clear h0
    clear h1
    clear h2
    clear h3
    clear h4
    have e0 : sgn 58 = true := by rfl
    rw [e0]
    clear e0
    go_enter Tryz.func90, Tryz.ntmps90
    go_wp2
    go_ret
    exact ⟨rfl, rfl⟩
  by_cases h6 : r = 64
  · subst h6
    clear h0
    clear h1
    clear h2
    clear h3
    clear h4
    clear h5
    have e0 : sgn 64 = true := by rfl
    rw [e0]
    clear e0
    go_enter Tryz.func90, Tryz.ntmps90
    go_wp2
    go_ret
    exact ⟨rfl, rfl⟩
  by_cases h7 : r = 43
  · subst h7
    clear h0
    clear h1
    clear h2
    clear h3
    clear h4
    clear h5
    clear h6
    have e0 : sgn 43 = true := by rfl
    rw [e0]
    clear e0
    go_enter Tryz.func90, Tryz.ntmps90
    go_wp2
    go_ret
    exact ⟨rfl, rfl⟩
  by_cases h8 : r = 45
  · subst h8
    clear h0
    clear h1
    clear h2
    clear h3
    clear h4
    clear h5
    clear h6
    clear h7
    have e0 : sgn 45 = true := by rfl
    rw [e0]
    clear e0
    go_enter Tryz.func90, Tryz.ntmps90
    go_wp2
    go_ret
    exact ⟨rfl, rfl⟩
  by_cases h9 : r = 42
  · subst h9
    clear h0
    clear h1
    clear h2
    clear h3
    clear h4
    clear h5
    clear h6
    clear h7
    clear h8
    have e0 : sgn 42 = true := by rfl
    rw [e0]
    clear e0
    go_enter Tryz.func90, Tryz.ntmps90
    go_wp2
    go_ret
    exact ⟨rfl, rfl⟩
  by_cases h10 : r = 47
  · subst h10
    clear h0
    clear h1
    clear h2
    clear h3
    clear h4
    clear h5
    clear h6
    clear h7
    clear h8
    clear h9
    have e0 : sgn 47 = true := by rfl
    rw [e0]
    clear e0
    go_enter Tryz.func90, Tryz.ntmps90
    go_wp2
    go_ret
    exact ⟨rfl, rfl⟩
  by_cases h11 : r = 37
  · subst h11
    clear h0
    clear h1
    clear h2
    clear h3
    clear h4
    clear h5
    clear h6
    clear h7
    clear h8
    clear h9
    clear h10
    have e0 : sgn 37 = true := by rfl
    rw [e0]
    clear e0
    go_enter Tryz.func90, Tryz.ntmps90
    go_wp2
    go_ret
    exact ⟨rfl, rfl⟩
  by_cases h12 : r = 61
  · subst h12
    clear h0
    clear h1
    clear h2
    clear h3
    clear h4
    clear h5
    clear h6
    clear h7
    clear h8
    clear h9
    clear h10
    clear h11
    have e0 : sgn 61 = true := by rfl
    rw [e0]
    clear e0
    go_enter Tryz.func90, Tryz.ntmps90
    go_wp2
    go_ret
    exact ⟨rfl, rfl⟩
  by_cases h13 : r = 33
  · subst h13
    clear h0
    clear h1
    clear h2
    clear h3
    clear h4
    clear h5
    clear h6
    clear h7
    clear h8
    clear h9
    clear h10
    clear h11
    clear h12
    have e0 : sgn 33 = true := by rfl
    rw [e0]
    clear e0
    go_enter Tryz.func90, Tryz.ntmps90
    go_wp2
    go_ret
    exact ⟨rfl, rfl⟩
  by_cases h14 : r = 60
  · subst h14
    clear h0
    clear h1
    clear h2
    clear h3
    clear h4
    clear h5
    clear h6
    clear h7
    clear h8
    clear h9
    clear h10
    clear h11
    clear h12
    clear h13
    have e0 : sgn 60 = true := by rfl
    rw [e0]
    clear e0
    go_enter Tryz.func90, Tryz.ntmps90
    go_wp2
    go_ret
    exact ⟨rfl, rfl⟩
  have e0 : sgn r = false := by simp [sgn]; omega
  have g0 : ¬ (r : Int) = 40 := by omega
  have g1 : ¬ (r : Int) = 41 := by omega
  have g2 : ¬ (r : Int) = 123 := by omega
  have g3 : ¬ (r : Int) = 125 := by omega
  have g4 : ¬ (r : Int) = 44 := by omega
  have g5 : ¬ (r : Int) = 58 := by omega
  have g6 : ¬ (r : Int) = 64 := by omega
  have g7 : ¬ (r : Int) = 43 := by omega
  have g8 : ¬ (r : Int) = 45 := by omega
  have g9 : ¬ (r : Int) = 42 := by omega
  have g10 : ¬ (r : Int) = 47 := by omega
  have g11 : ¬ (r : Int) = 37 := by omega
  have g12 : ¬ (r : Int) = 61 := by omega
  have g13 : ¬ (r : Int) = 33 := by omega
  have g14 : ¬ (r : Int) = 60 := by omega
  clear h0 h1 h2 h3 h4 h5 h6 h7 h8 h9 h10 h11 h12 h13 h14
  rw [e0]
  clear e0
  go_enter Tryz.func90, Tryz.ntmps90
  go_wp2
  go_ret
  exact ⟨rfl, rfl⟩
theorem sml_c (r : Nat) (w : World) (hr : r ≤ 2147483647) :
    Calls Tryz.prog 105 #[.int .i32 (r : Nat)] w fun e w' => e = .returned (.bool (sml r)) ∧ w' = w := by
  by_cases h1 : 97 ≤ r
  · have g1 : (97 : Int) ≤ (r : Int) := by omega
    by_cases h2 : r ≤ 122
    · have g2 : (r : Int) ≤ 122 := by omega
      have e0 : sml r = true := by simp [sml, h1, h2]
      rw [e0]
      clear e0
      go_enter Tryz.func105, Tryz.ntmps105
      go_wp2
      go_ret
      exact ⟨rfl, rfl⟩
    · have g2 : ¬ (r : Int) ≤ 122 := by omega
      have g3 : decide ((r : Int) ≤ 122) = false := decide_eq_false g2
      have e0 : sml r = false := by simp [sml]; omega
      rw [e0]
      clear e0
      go_enter Tryz.func105, Tryz.ntmps105
      go_wp2
      go_ret
      exact ⟨rfl, rfl⟩
  · have g1 : ¬ (97 : Int) ≤ (r : Int) := by omega
    have e0 : sml r = false := by simp [sml]; omega
    rw [e0]
    clear e0
    go_enter Tryz.func105, Tryz.ntmps105
    go_wp2
    go_ret
    exact ⟨rfl, rfl⟩
theorem dig_c (r : Nat) (w : World) (hr : r ≤ 2147483647) :
    Calls Tryz.prog 89 #[.int .i32 (r : Nat)] w fun e w' => e = .returned (.bool (dig r)) ∧ w' = w := by
  by_cases h1 : 48 ≤ r
  · have g1 : (48 : Int) ≤ (r : Int) := by omega
    by_cases h2 : r ≤ 57
    · have g2 : (r : Int) ≤ 57 := by omega
      have e0 : dig r = true := by simp [dig, h1, h2]
      rw [e0]
      clear e0
      go_enter Tryz.func89, Tryz.ntmps89
      go_wp2
      go_ret
      exact ⟨rfl, rfl⟩
    · have g2 : ¬ (r : Int) ≤ 57 := by omega
      have g3 : decide ((r : Int) ≤ 57) = false := decide_eq_false g2
      have e0 : dig r = false := by simp [dig]; omega
      rw [e0]
      clear e0
      go_enter Tryz.func89, Tryz.ntmps89
      go_wp2
      go_ret
      exact ⟨rfl, rfl⟩
  · have g1 : ¬ (48 : Int) ≤ (r : Int) := by omega
    have e0 : dig r = false := by simp [dig]; omega
    rw [e0]
    clear e0
    go_enter Tryz.func89, Tryz.ntmps89
    go_wp2
    go_ret
    exact ⟨rfl, rfl⟩
theorem ltr_c (r : Nat) (w : World) (hr : r ≤ 2147483647) :
    Calls Tryz.prog 88 #[.int .i32 (r : Nat)] w fun e w' => e = .returned (.bool (ltr r)) ∧ w' = w := by
  by_cases h0 : sml r = true
  · have e0 : ltr r = true := by simp [ltr, h0]
    rw [e0]
    clear e0
    go_enter Tryz.func88, Tryz.ntmps88
    go_wp2_with (go_at_call 105; refine (sml_c r _ hr).mono ?_; rw [h0]; rintro e w1 ⟨rfl, rfl⟩)
    go_ret
    exact ⟨rfl, rfl⟩
  · have h0' : sml r = false := by simpa using h0
    by_cases h1 : 65 ≤ r
    · have g1 : (65 : Int) ≤ (r : Int) := by omega
      by_cases h2 : r ≤ 90
      · have g2 : (r : Int) ≤ 90 := by omega
        have e0 : ltr r = true := by simp [ltr, h0', h1, h2]
        rw [e0]
        clear e0
        go_enter Tryz.func88, Tryz.ntmps88
        go_wp2_with (go_at_call 105; refine (sml_c r _ hr).mono ?_; rw [h0']; rintro e w1 ⟨rfl, rfl⟩)
        go_ret
        exact ⟨rfl, rfl⟩
      · have g2 : ¬ (r : Int) ≤ 90 := by omega
        have g3 : decide ((r : Int) ≤ 90) = false := decide_eq_false g2
        have e0 : ltr r = false := by simp [ltr, h0']; omega
        rw [e0]
        clear e0
        go_enter Tryz.func88, Tryz.ntmps88
        go_wp2_with (go_at_call 105; refine (sml_c r _ hr).mono ?_; rw [h0']; rintro e w1 ⟨rfl, rfl⟩)
        go_ret
        exact ⟨rfl, rfl⟩
    · have g1 : ¬ (65 : Int) ≤ (r : Int) := by omega
      have e0 : ltr r = false := by simp [ltr, h0']; omega
      rw [e0]
      clear e0
      go_enter Tryz.func88, Tryz.ntmps88
      go_wp2_with (go_at_call 105; refine (sml_c r _ hr).mono ?_; rw [h0']; rintro e w1 ⟨rfl, rfl⟩)
      go_ret
      exact ⟨rfl, rfl⟩
theorem kind_c (r : Nat) (w : World) (hr : r ≤ 2147483647) :
    Calls Tryz.prog 61 #[.int .i32 (r : Nat)] w fun e w' => e = .returned (.int .i64 (cls r : Nat)) ∧ w' = w := by
  unfold cls
  cases h0 : blk r
  · cases h1 : ltr r
    · cases h2 : dig r
      · cases h3 : sgn r
        all_goals
          simp only [Bool.false_eq_true, if_false, if_true]
          go_enter Tryz.func61, Tryz.ntmps61
          go_wp2_with (first | (go_at_call 87; refine (blk_c r _ hr).mono ?_; rw [h0]; rintro e w1 ⟨rfl, rfl⟩) | (go_at_call 88; refine (ltr_c r _ hr).mono ?_; rw [h1]; rintro e w1 ⟨rfl, rfl⟩) | (go_at_call 89; refine (dig_c r _ hr).mono ?_; rw [h2]; rintro e w1 ⟨rfl, rfl⟩) | (go_at_call 90; refine (sgn_c r _ hr).mono ?_; rw [h3]; rintro e w1 ⟨rfl, rfl⟩))
          go_ret
          exact ⟨rfl, rfl⟩
      · simp only [Bool.false_eq_true, if_false, if_true]
        go_enter Tryz.func61, Tryz.ntmps61
        go_wp2_with (first | (go_at_call 87; refine (blk_c r _ hr).mono ?_; rw [h0]; rintro e w1 ⟨rfl, rfl⟩) | (go_at_call 88; refine (ltr_c r _ hr).mono ?_; rw [h1]; rintro e w1 ⟨rfl, rfl⟩) | (go_at_call 89; refine (dig_c r _ hr).mono ?_; rw [h2]; rintro e w1 ⟨rfl, rfl⟩))
        go_ret
        exact ⟨rfl, rfl⟩
    · simp only [Bool.false_eq_true, if_false, if_true]
      go_enter Tryz.func61, Tryz.ntmps61
      go_wp2_with (first | (go_at_call 87; refine (blk_c r _ hr).mono ?_; rw [h0]; rintro e w1 ⟨rfl, rfl⟩) | (go_at_call 88; refine (ltr_c r _ hr).mono ?_; rw [h1]; rintro e w1 ⟨rfl, rfl⟩))
      go_ret
      exact ⟨rfl, rfl⟩
  · simp only [if_true]
    go_enter Tryz.func61, Tryz.ntmps61
    go_wp2_with (go_at_call 87; refine (blk_c r _ hr).mono ?_; rw [h0]; rintro e w1 ⟨rfl, rfl⟩)
    go_ret
    exact ⟨rfl, rfl⟩
end Go.Proofs.YtfpmaeflmboalaaGreatDoor
namespace Go.Proofs.YtfpmaeflmboalaaGreatDoor
open Go.ChangeShapes Go.WideShapes Go.ChangeAt Go.RowKit
set_option linter.unusedVariables false

theorem str_ne {s t : ByteArray} (h : s ≠ t) : (s.toList == t.toList) = false := by
  rw [beq_eq_false_iff_ne, ByteArray.toList_eq, ByteArray.toList_eq]
  exact fun e => h (ByteArray.ext (Array.toList_inj.1 e))
theorem str_full {s : ByteArray} (h : ¬ s.size = 0) : s.toList.isEmpty = false := by
  rw [ByteArray.toList_eq, List.isEmpty_eq_false_iff]
  intro e
  have h2 : s.data.size = 0 := by rw [← Array.length_toList, e]; rfl
  exact h h2
theorem bytes_eq {s t : ByteArray} : s.data.toList = t.data.toList ↔ s = t :=
  ⟨fun e => ByteArray.ext (Array.toList_inj.1 e), fun e => by rw [e]⟩
/-- A piece, as a value. -/
abbrev pcv (k : Nat) (t : ByteArray) (a : Nat) : Value := .agg #[.int .i64 (k : Nat), .string t, .int .i64 (a : Nat)]
theorem str_nel {t : ByteArray} {l : List UInt8} (h : ¬ t.data.toList = l) : ¬ t.toList = l := by rw [ByteArray.toList_eq]; exact h
theorem b0 (w : World) : Below w.heap.size w w := Below.refl _ _
theorem b1 (w : World) (o : Obj) : Below w.heap.size w (w.alloc o) := (Below.refl _ w).alloc (Nat.le_refl _) _

theorem takes_0 (t : ByteArray) (a r : Nat) (w : World) (hr : r ≤ 2147483647) :
    Calls Tryz.prog 60 #[pcv 0 t a, .int .i32 (r : Nat)] w fun e w' => e = .returned (.bool (tks 0 t.data.toList r)) ∧ Below w.heap.size w w' := by
  go_enter Tryz.func60, Tryz.ntmps60
  go_wp2_with (go_at_call 87; refine (blk_c r _ hr).mono ?_; rintro e w1 ⟨rfl, rfl⟩)
  go_ret
  exact ⟨rfl, b1 _ _⟩
theorem takes_2 (t : ByteArray) (a r : Nat) (w : World) (hr : r ≤ 2147483647) :
    Calls Tryz.prog 60 #[pcv 2 t a, .int .i32 (r : Nat)] w fun e w' => e = .returned (.bool (tks 2 t.data.toList r)) ∧ Below w.heap.size w w' := by
  go_enter Tryz.func60, Tryz.ntmps60
  go_wp2_with (go_at_call 89; refine (dig_c r _ hr).mono ?_; rintro e w1 ⟨rfl, rfl⟩)
  go_ret
  exact ⟨rfl, b1 _ _⟩
theorem takes_4 (t : ByteArray) (a r : Nat) (w : World) (hr : r ≤ 2147483647) :
    Calls Tryz.prog 60 #[pcv 4 t a, .int .i32 (r : Nat)] w fun e w' => e = .returned (.bool (tks 4 t.data.toList r)) ∧ Below w.heap.size w w' := by
  go_enter Tryz.func60, Tryz.ntmps60
  go_wp2
  go_ret
  exact ⟨rfl, b1 _ _⟩
theorem takes_1 (t : ByteArray) (a r : Nat) (w : World) (hr : r ≤ 2147483647) :
    Calls Tryz.prog 60 #[pcv 1 t a, .int .i32 (r : Nat)] w fun e w' => e = .returned (.bool (tks 1 t.data.toList r)) ∧ Below w.heap.size w w' := by
  have e0 : tks 1 t.data.toList r = (ltr r || dig r || r == 95) := rfl
  rw [e0]
  clear e0
  cases h1 : ltr r
  · cases h2 : dig r
    · by_cases h3 : r = 95
      · subst h3
        go_enter Tryz.func60, Tryz.ntmps60
        go_wp2_with (first | (go_at_call 88; refine (ltr_c 95 _ hr).mono ?_; rw [h1]; rintro e w1 ⟨rfl, rfl⟩) | (go_at_call 89; refine (dig_c 95 _ hr).mono ?_; rw [h2]; rintro e w1 ⟨rfl, rfl⟩))
        go_ret
        exact ⟨rfl, b1 _ _⟩
      · have g3 : ¬ (r : Int) = 95 := by omega
        have g4 : (r == 95) = false := by simpa using h3
        rw [g4]
        clear g4 h3
        go_enter Tryz.func60, Tryz.ntmps60
        go_wp2_with (first | (go_at_call 88; refine (ltr_c r _ hr).mono ?_; rw [h1]; rintro e w1 ⟨rfl, rfl⟩) | (go_at_call 89; refine (dig_c r _ hr).mono ?_; rw [h2]; rintro e w1 ⟨rfl, rfl⟩))
        go_ret
        exact ⟨by simp [g3], b1 _ _⟩
    · go_enter Tryz.func60, Tryz.ntmps60
      go_wp2_with (first | (go_at_call 88; refine (ltr_c r _ hr).mono ?_; rw [h1]; rintro e w1 ⟨rfl, rfl⟩) | (go_at_call 89; refine (dig_c r _ hr).mono ?_; rw [h2]; rintro e w1 ⟨rfl, rfl⟩))
      go_ret
      exact ⟨by simp, b1 _ _⟩
  · go_enter Tryz.func60, Tryz.ntmps60
    go_wp2_with (first | (go_at_call 88; refine (ltr_c r _ hr).mono ?_; rw [h1]; rintro e w1 ⟨rfl, rfl⟩) | (go_at_call 89; refine (dig_c r _ hr).mono ?_; rw [h2]; rintro e w1 ⟨rfl, rfl⟩))
    go_ret
    exact ⟨by simp, b1 _ _⟩
theorem takes_3 (t : ByteArray) (a r : Nat) (w : World) (hr : r ≤ 2147483647) :
    Calls Tryz.prog 60 #[pcv 3 t a, .int .i32 (r : Nat)] w fun e w' => e = .returned (.bool (tks 3 t.data.toList r)) ∧ Below w.heap.size w w' := by
  have e0 : tks 3 t.data.toList r = (r == 61 && (t.data.toList == [33] || t.data.toList == [60])) := rfl
  rw [e0]
  clear e0
  by_cases h3 : r = 61
  · subst h3
    by_cases h1 : t = ⟨#[33]⟩
    · subst h1
      go_enter Tryz.func60, Tryz.ntmps60
      go_wp2
      go_ret
      exact ⟨by simp, b1 _ _⟩
    · have g1 : (t.data.toList == [33]) = false := by rw [beq_eq_false_iff_ne]; exact fun e => h1 (bytes_eq.1 e)
      have n1 : ¬ t.toList = [33] := str_nel fun e => h1 (bytes_eq.1 e)
      by_cases h2 : t = ⟨#[60]⟩
      · subst h2
        clear h1 g1 n1
        go_enter Tryz.func60, Tryz.ntmps60
        go_wp2
        go_ret
        exact ⟨by simp, b1 _ _⟩
      · have g2 : (t.data.toList == [60]) = false := by rw [beq_eq_false_iff_ne]; exact fun e => h2 (bytes_eq.1 e)
        have n2 : ¬ t.toList = [60] := str_nel fun e => h2 (bytes_eq.1 e)
        rw [g1, g2]
        clear g1 g2
        go_enter Tryz.func60, Tryz.ntmps60
        go_wp2
        go_ret
        exact ⟨by simp [n1, n2], b1 _ _⟩
  · have g3 : ¬ (r : Int) = 61 := by omega
    have g4 : (r == 61) = false := by simpa using h3
    rw [g4]
    clear g4 h3
    go_enter Tryz.func60, Tryz.ntmps60
    go_wp2
    go_ret
    exact ⟨by simp, b1 _ _⟩
theorem takes_c (k : Nat) (t : ByteArray) (a r : Nat) (w : World) (hk : k ≤ 4) (hr : r ≤ 2147483647) :
    Calls Tryz.prog 60 #[pcv k t a, .int .i32 (r : Nat)] w fun e w' => e = .returned (.bool (tks k t.data.toList r)) ∧ Below w.heap.size w w' := by
  match k, hk with
  | 0, _ => exact takes_0 t a r w hr
  | 1, _ => exact takes_1 t a r w hr
  | 2, _ => exact takes_2 t a r w hr
  | 3, _ => exact takes_3 t a r w hr
  | 4, _ => exact takes_4 t a r w hr
end Go.Proofs.YtfpmaeflmboalaaGreatDoor
