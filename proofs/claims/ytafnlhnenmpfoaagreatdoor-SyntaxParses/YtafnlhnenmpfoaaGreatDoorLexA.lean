/- The library's strconv.Atoi at this program: the kit's contracts, laid in plain words by the kit's own tool. -/
import Derived.Test.YtafnlhnenmpfoaaGreatDoorMem
import Derived.Test.YtafnlhnenmpfoaaGreatDoorRows
import Derived.Shelf.Strconv.ErrVarAll
import Derived.Ground.NamesProg
namespace Go.Proofs.YtafnlhnenmpfoaaGreatDoor
open Go.ChangeShapes Go.WideShapes Go.ChangeAt Go.RowKit
set_option linter.unusedVariables false

theorem blk_c (r : Nat) (w : World) (hr : r ≤ 2147483647) :
    Calls Tryz.prog 114 #[.int .i32 (r : Nat)] w fun e w' => e = .returned (.bool (blk r)) ∧ w' = w := by
  by_cases h0 : r = 32
  · subst h0
    have e0 : blk 32 = true := by rfl
    rw [e0]
    clear e0
    go_enter Tryz.func114, Tryz.ntmps114
    go_wp2
    go_ret
    exact ⟨rfl, rfl⟩
  by_cases h1 : r = 9
  · subst h1
    clear h0
    have e0 : blk 9 = true := by rfl
    rw [e0]
    clear e0
    go_enter Tryz.func114, Tryz.ntmps114
    go_wp2
    go_ret
    exact ⟨rfl, rfl⟩
  by_cases h2 : r = 10
  · subst h2
    clear h0
    clear h1
    have e0 : blk 10 = true := by rfl
    rw [e0]
    clear e0
    go_enter Tryz.func114, Tryz.ntmps114
    go_wp2
    go_ret
    exact ⟨rfl, rfl⟩
  by_cases h3 : r = 13
  · subst h3
    clear h0
    clear h1
    clear h2
    have e0 : blk 13 = true := by rfl
    rw [e0]
    clear e0
    go_enter Tryz.func114, Tryz.ntmps114
    go_wp2
    go_ret
    exact ⟨rfl, rfl⟩
  have e0 : blk r = false := by simp [blk]; omega
  have g0 : ¬ (r : Int) = 32 := by omega
  have g1 : ¬ (r : Int) = 9 := by omega
  have g2 : ¬ (r : Int) = 10 := by omega
  have g3 : ¬ (r : Int) = 13 := by omega
  clear h0 h1 h2 h3
  rw [e0]
  clear e0
  go_enter Tryz.func114, Tryz.ntmps114
  go_wp2
  go_ret
  refine ⟨?_, rfl⟩
  simp [g0, g1, g2, g3]
theorem sgn_c (r : Nat) (w : World) (hr : r ≤ 2147483647) :
    Calls Tryz.prog 117 #[.int .i32 (r : Nat)] w fun e w' => e = .returned (.bool (sgn r)) ∧ w' = w := by
  by_cases h0 : r = 40
  · subst h0
    have e0 : sgn 40 = true := by rfl
    rw [e0]
    clear e0
    go_enter Tryz.func117, Tryz.ntmps117
    go_wp2
    go_ret
    exact ⟨rfl, rfl⟩
  by_cases h1 : r = 41
  · subst h1
    clear h0
    have e0 : sgn 41 = true := by rfl
    rw [e0]
    clear e0
    go_enter Tryz.func117, Tryz.ntmps117
    go_wp2
    go_ret
    exact ⟨rfl, rfl⟩
  by_cases h2 : r = 123
  · subst h2
    clear h0
    clear h1
    have e0 : sgn 123 = true := by rfl
    rw [e0]
    clear e0
    go_enter Tryz.func117, Tryz.ntmps117
    go_wp2
    go_ret
    exact ⟨rfl, rfl⟩
  by_cases h3 : r = 125
  · subst h3
    clear h0
    clear h1
    clear h2
    have e0 : sgn 125 = true := by rfl
    rw [e0]
    clear e0
    go_enter Tryz.func117, Tryz.ntmps117
    go_wp2
    go_ret
    exact ⟨rfl, rfl⟩
  by_cases h4 : r = 44
  · subst h4
    clear h0
    clear h1
    clear h2
    clear h3
    have e0 : sgn 44 = true := by rfl
    rw [e0]
    clear e0
    go_enter Tryz.func117, Tryz.ntmps117
    go_wp2
    go_ret
    exact ⟨rfl, rfl⟩
  by_cases h5 : r = 58
  · subst h5
    clear h0
    clear h1
    clear h2
    clear h3
    clear h4
    have e0 : sgn 58 = true := by rfl
    rw [e0]
    clear e0
    go_enter Tryz.func117, Tryz.ntmps117
    go_wp2
    go_ret
    exact ⟨rfl, rfl⟩
  by_cases h6 : r = 64
  · subst h6
    clear h0
    clear h1
    clear h2
    clear h3
    clear h4
    clear h5
    have e0 : sgn 64 = true := by rfl
    rw [e0]
    clear e0
    go_enter Tryz.func117, Tryz.ntmps117
    go_wp2
    go_ret
    exact ⟨rfl, rfl⟩
  by_cases h7 : r = 43
  · subst h7
    clear h0
    clear h1
    clear h2
    clear h3
    clear h4
    clear h5
    clear h6
    have e0 : sgn 43 = true := by rfl
    rw [e0]
    clear e0
    go_enter Tryz.func117, Tryz.ntmps117
    go_wp2
    go_ret
    exact ⟨rfl, rfl⟩
  by_cases h8 : r = 45
  · subst h8
    clear h0
    clear h1
    clear h2
    clear h3
    clear h4
    clear h5
    clear h6
    clear h7
    have e0 : sgn 45 = true := by rfl
    rw [e0]
    clear e0
    go_enter Tryz.func117, Tryz.ntmps117
    go_wp2
    go_ret
    exact ⟨rfl, rfl⟩
  by_cases h9 : r = 42
  · subst h9
    clear h0
    clear h1
    clear h2
    clear h3
    clear h4
    clear h5
    clear h6
    clear h7
    clear h8
    have e0 : sgn 42 = true := by rfl
    rw [e0]
    clear e0
    go_enter Tryz.func117, Tryz.ntmps117
    go_wp2
    go_ret
    exact ⟨rfl, rfl⟩
  by_cases h10 : r = 47
  · subst h10
    clear h0
    clear h1
    clear h2
    clear h3
    clear h4
    clear h5
    clear h6
    clear h7
    clear h8
    clear h9
    have e0 : sgn 47 = true := by rfl
    rw [e0]
    clear e0
    go_enter Tryz.func117, Tryz.ntmps117
    go_wp2
    go_ret
    exact ⟨rfl, rfl⟩
  by_cases h11 : r = 37
  · subst h11
    clear h0
    clear h1
    clear h2
    clear h3
    clear h4
    clear h5
    clear h6
    clear h7
    clear h8
    clear h9
    clear h10
    have e0 : sgn 37 = true := by rfl
    rw [e0]
    clear e0
    go_enter Tryz.func117, Tryz.ntmps117
    go_wp2
    go_ret
    exact ⟨rfl, rfl⟩
  by_cases h12 : r = 61
  · subst h12
    clear h0
    clear h1
    clear h2
    clear h3
    clear h4
    clear h5
    clear h6
    clear h7
    clear h8
    clear h9
    clear h10
    clear h11
    have e0 : sgn 61 = true := by rfl
    rw [e0]
    clear e0
    go_enter Tryz.func117, Tryz.ntmps117
    go_wp2
    go_ret
    exact ⟨rfl, rfl⟩
  by_cases h13 : r = 33
  · subst h13
    clear h0
    clear h1
    clear h2
    clear h3
    clear h4
    clear h5
    clear h6
    clear h7
    clear h8
    clear h9
    clear h10
    clear h11
    clear h12
    have e0 : sgn 33 = true := by rfl
    rw [e0]
    clear e0
    go_enter Tryz.func117, Tryz.ntmps117
    go_wp2
    go_ret
    exact ⟨rfl, rfl⟩
  by_cases h14 : r = 60
  · subst h14
    clear h0
    clear h1
    clear h2
    clear h3
    clear h4
    clear h5
    clear h6
    clear h7
    clear h8
    clear h9
    clear h10
    clear h11
    clear h12
    clear h13
    have e0 : sgn 60 = true := by rfl
    rw [e0]
    clear e0
    go_enter Tryz.func117, Tryz.ntmps117
    go_wp2
    go_ret
    exact ⟨rfl, rfl⟩
  have e0 : sgn r = false := by simp [sgn]; omega
  have g0 : ¬ (r : Int) = 40 := by omega
  have g1 : ¬ (r : Int) = 41 := by omega
  have g2 : ¬ (r : Int) = 123 := by omega
  have g3 : ¬ (r : Int) = 125 := by omega
  have g4 : ¬ (r : Int) = 44 := by omega
  have g5 : ¬ (r : Int) = 58 := by omega
  have g6 : ¬ (r : Int) = 64 := by omega
  have g7 : ¬ (r : Int) = 43 := by omega
  have g8 : ¬ (r : Int) = 45 := by omega
  have g9 : ¬ (r : Int) = 42 := by omega
  have g10 : ¬ (r : Int) = 47 := by omega
  have g11 : ¬ (r : Int) = 37 := by omega
  have g12 : ¬ (r : Int) = 61 := by omega
  have g13 : ¬ (r : Int) = 33 := by omega
  have g14 : ¬ (r : Int) = 60 := by omega
  clear h0 h1 h2 h3 h4 h5 h6 h7 h8 h9 h10 h11 h12 h13 h14
  rw [e0]
  clear e0
  go_enter Tryz.func117, Tryz.ntmps117
  go_wp2
  go_ret
  exact ⟨rfl, rfl⟩
theorem sml_c (r : Nat) (w : World) (hr : r ≤ 2147483647) :
    Calls Tryz.prog 135 #[.int .i32 (r : Nat)] w fun e w' => e = .returned (.bool (sml r)) ∧ w' = w := by
  by_cases h1 : 97 ≤ r
  · have g1 : (97 : Int) ≤ (r : Int) := by omega
    by_cases h2 : r ≤ 122
    · have g2 : (r : Int) ≤ 122 := by omega
      have e0 : sml r = true := by simp [sml, h1, h2]
      rw [e0]
      clear e0
      go_enter Tryz.func135, Tryz.ntmps135
      go_wp2
      go_ret
      exact ⟨rfl, rfl⟩
    · have g2 : ¬ (r : Int) ≤ 122 := by omega
      have g3 : decide ((r : Int) ≤ 122) = false := decide_eq_false g2
      have e0 : sml r = false := by simp [sml]; omega
      rw [e0]
      clear e0
      go_enter Tryz.func135, Tryz.ntmps135
      go_wp2
      go_ret
      exact ⟨rfl, rfl⟩
  · have g1 : ¬ (97 : Int) ≤ (r : Int) := by omega
    have e0 : sml r = false := by simp [sml]; omega
    rw [e0]
    clear e0
    go_enter Tryz.func135, Tryz.ntmps135
    go_wp2
    go_ret
    exact ⟨rfl, rfl⟩
theorem dig_c (r : Nat) (w : World) (hr : r ≤ 2147483647) :
    Calls Tryz.prog 116 #[.int .i32 (r : Nat)] w fun e w' => e = .returned (.bool (dig r)) ∧ w' = w := by
  by_cases h1 : 48 ≤ r
  · have g1 : (48 : Int) ≤ (r : Int) := by omega
    by_cases h2 : r ≤ 57
    · have g2 : (r : Int) ≤ 57 := by omega
      have e0 : dig r = true := by simp [dig, h1, h2]
      rw [e0]
      clear e0
      go_enter Tryz.func116, Tryz.ntmps116
      go_wp2
      go_ret
      exact ⟨rfl, rfl⟩
    · have g2 : ¬ (r : Int) ≤ 57 := by omega
      have g3 : decide ((r : Int) ≤ 57) = false := decide_eq_false g2
      have e0 : dig r = false := by simp [dig]; omega
      rw [e0]
      clear e0
      go_enter Tryz.func116, Tryz.ntmps116
      go_wp2
      go_ret
      exact ⟨rfl, rfl⟩
  · have g1 : ¬ (48 : Int) ≤ (r : Int) := by omega
    have e0 : dig r = false := by simp [dig]; omega
    rw [e0]
    clear e0
    go_enter Tryz.func116, Tryz.ntmps116
    go_wp2
    go_ret
    exact ⟨rfl, rfl⟩
theorem ltr_c (r : Nat) (w : World) (hr : r ≤ 2147483647) :
    Calls Tryz.prog 115 #[.int .i32 (r : Nat)] w fun e w' => e = .returned (.bool (ltr r)) ∧ w' = w := by
  by_cases h0 : sml r = true
  · have e0 : ltr r = true := by simp [ltr, h0]
    rw [e0]
    clear e0
    go_enter Tryz.func115, Tryz.ntmps115
    go_wp2_with (go_at_call 135; refine (sml_c r _ hr).mono ?_; rw [h0]; rintro e w1 ⟨rfl, rfl⟩)
    go_ret
    exact ⟨rfl, rfl⟩
  · have h0' : sml r = false := by simpa using h0
    by_cases h1 : 65 ≤ r
    · have g1 : (65 : Int) ≤ (r : Int) := by omega
      by_cases h2 : r ≤ 90
      · have g2 : (r : Int) ≤ 90 := by omega
        have e0 : ltr r = true := by simp [ltr, h0', h1, h2]
        rw [e0]
        clear e0
        go_enter Tryz.func115, Tryz.ntmps115
        go_wp2_with (go_at_call 135; refine (sml_c r _ hr).mono ?_; rw [h0']; rintro e w1 ⟨rfl, rfl⟩)
        go_ret
        exact ⟨rfl, rfl⟩
      · have g2 : ¬ (r : Int) ≤ 90 := by omega
        have g3 : decide ((r : Int) ≤ 90) = false := decide_eq_false g2
        have e0 : ltr r = false := by simp [ltr, h0']; omega
        rw [e0]
        clear e0
        go_enter Tryz.func115, Tryz.ntmps115
        go_wp2_with (go_at_call 135; refine (sml_c r _ hr).mono ?_; rw [h0']; rintro e w1 ⟨rfl, rfl⟩)
        go_ret
        exact ⟨rfl, rfl⟩
    · have g1 : ¬ (65 : Int) ≤ (r : Int) := by omega
      have e0 : ltr r = false := by simp [ltr, h0']; omega
      rw [e0]
      clear e0
      go_enter Tryz.func115, Tryz.ntmps115
      go_wp2_with (go_at_call 135; refine (sml_c r _ hr).mono ?_; rw [h0']; rintro e w1 ⟨rfl, rfl⟩)
      go_ret
      exact ⟨rfl, rfl⟩
theorem kind_c (r : Nat) (w : World) (hr : r ≤ 2147483647) :
    Calls Tryz.prog 75 #[.int .i32 (r : Nat)] w fun e w' => e = .returned (.int .i64 (cls r : Nat)) ∧ w' = w := by
  unfold cls
  cases h0 : blk r
  · cases h1 : ltr r
    · cases h2 : dig r
      · cases h3 : sgn r
        all_goals
          simp only [Bool.false_eq_true, if_false, if_true]
          go_enter Tryz.func75, Tryz.ntmps75
          go_wp2_with (first | (go_at_call 114; refine (blk_c r _ hr).mono ?_; rw [h0]; rintro e w1 ⟨rfl, rfl⟩) | (go_at_call 115; refine (ltr_c r _ hr).mono ?_; rw [h1]; rintro e w1 ⟨rfl, rfl⟩) | (go_at_call 116; refine (dig_c r _ hr).mono ?_; rw [h2]; rintro e w1 ⟨rfl, rfl⟩) | (go_at_call 117; refine (sgn_c r _ hr).mono ?_; rw [h3]; rintro e w1 ⟨rfl, rfl⟩))
          go_ret
          exact ⟨rfl, rfl⟩
      · simp only [Bool.false_eq_true, if_false, if_true]
        go_enter Tryz.func75, Tryz.ntmps75
        go_wp2_with (first | (go_at_call 114; refine (blk_c r _ hr).mono ?_; rw [h0]; rintro e w1 ⟨rfl, rfl⟩) | (go_at_call 115; refine (ltr_c r _ hr).mono ?_; rw [h1]; rintro e w1 ⟨rfl, rfl⟩) | (go_at_call 116; refine (dig_c r _ hr).mono ?_; rw [h2]; rintro e w1 ⟨rfl, rfl⟩))
        go_ret
        exact ⟨rfl, rfl⟩
    · simp only [Bool.false_eq_true, if_false, if_true]
      go_enter Tryz.func75, Tryz.ntmps75
      go_wp2_with (first | (go_at_call 114; refine (blk_c r _ hr).mono ?_; rw [h0]; rintro e w1 ⟨rfl, rfl⟩) | (go_at_call 115; refine (ltr_c r _ hr).mono ?_; rw [h1]; rintro e w1 ⟨rfl, rfl⟩))
      go_ret
      exact ⟨rfl, rfl⟩
  · simp only [if_true]
    go_enter Tryz.func75, Tryz.ntmps75
    go_wp2_with (go_at_call 114; refine (blk_c r _ hr).mono ?_; rw [h0]; rintro e w1 ⟨rfl, rfl⟩)
    go_ret
    exact ⟨rfl, rfl⟩
end Go.Proofs.YtafnlhnenmpfoaaGreatDoor
namespace Go.Proofs.YtafnlhnenmpfoaaGreatDoor
open Go.ChangeShapes Go.WideShapes Go.ChangeAt Go.RowKit
set_option linter.unusedVariables false

theorem str_ne {s t : ByteArray} (h : s ≠ t) : (s.toList == t.toList) = false := by
  rw [beq_eq_false_iff_ne, ByteArray.toList_eq, ByteArray.toList_eq]
  exact fun e => h (ByteArray.ext (Array.toList_inj.1 e))
theorem str_full {s : ByteArray} (h : ¬ s.size = 0) : s.toList.isEmpty = false := by
  rw [ByteArray.toList_eq, List.isEmpty_eq_false_iff]
  intro e
  have h2 : s.data.size = 0 := by rw [← Array.length_toList, e]; rfl
  exact h h2
theorem bytes_eq {s t : ByteArray} : s.data.toList = t.data.toList ↔ s = t :=
  ⟨fun e => ByteArray.ext (Array.toList_inj.1 e), fun e => by rw [e]⟩
/-- A piece, as a value. -/
abbrev pcv (k : Nat) (t : ByteArray) (a : Nat) : Value := .agg #[.int .i64 (k : Nat), .string t, .int .i64 (a : Nat)]
theorem str_nel {t : ByteArray} {l : List UInt8} (h : ¬ t.data.toList = l) : ¬ t.toList = l := by rw [ByteArray.toList_eq]; exact h
theorem b0 (w : World) : Below w.heap.size w w := Below.refl _ _
theorem b1 (w : World) (o : Obj) : Below w.heap.size w (w.alloc o) := (Below.refl _ w).alloc (Nat.le_refl _) _

theorem takes_0 (t : ByteArray) (a r : Nat) (w : World) (hr : r ≤ 2147483647) :
    Calls Tryz.prog 74 #[pcv 0 t a, .int .i32 (r : Nat)] w fun e w' => e = .returned (.bool (tks 0 t.data.toList r)) ∧ Below w.heap.size w w' := by
  go_enter Tryz.func74, Tryz.ntmps74
  go_wp2_with (go_at_call 114; refine (blk_c r _ hr).mono ?_; rintro e w1 ⟨rfl, rfl⟩)
  go_ret
  exact ⟨rfl, b1 _ _⟩
theorem takes_2 (t : ByteArray) (a r : Nat) (w : World) (hr : r ≤ 2147483647) :
    Calls Tryz.prog 74 #[pcv 2 t a, .int .i32 (r : Nat)] w fun e w' => e = .returned (.bool (tks 2 t.data.toList r)) ∧ Below w.heap.size w w' := by
  go_enter Tryz.func74, Tryz.ntmps74
  go_wp2_with (go_at_call 116; refine (dig_c r _ hr).mono ?_; rintro e w1 ⟨rfl, rfl⟩)
  go_ret
  exact ⟨rfl, b1 _ _⟩
theorem takes_4 (t : ByteArray) (a r : Nat) (w : World) (hr : r ≤ 2147483647) :
    Calls Tryz.prog 74 #[pcv 4 t a, .int .i32 (r : Nat)] w fun e w' => e = .returned (.bool (tks 4 t.data.toList r)) ∧ Below w.heap.size w w' := by
  go_enter Tryz.func74, Tryz.ntmps74
  go_wp2
  go_ret
  exact ⟨rfl, b1 _ _⟩
theorem takes_1 (t : ByteArray) (a r : Nat) (w : World) (hr : r ≤ 2147483647) :
    Calls Tryz.prog 74 #[pcv 1 t a, .int .i32 (r : Nat)] w fun e w' => e = .returned (.bool (tks 1 t.data.toList r)) ∧ Below w.heap.size w w' := by
  have e0 : tks 1 t.data.toList r = (ltr r || dig r || r == 95) := rfl
  rw [e0]
  clear e0
  cases h1 : ltr r
  · cases h2 : dig r
    · by_cases h3 : r = 95
      · subst h3
        go_enter Tryz.func74, Tryz.ntmps74
        go_wp2_with (first | (go_at_call 115; refine (ltr_c 95 _ hr).mono ?_; rw [h1]; rintro e w1 ⟨rfl, rfl⟩) | (go_at_call 116; refine (dig_c 95 _ hr).mono ?_; rw [h2]; rintro e w1 ⟨rfl, rfl⟩))
        go_ret
        exact ⟨rfl, b1 _ _⟩
      · have g3 : ¬ (r : Int) = 95 := by omega
        have g4 : (r == 95) = false := by simpa using h3
        rw [g4]
        clear g4 h3
        go_enter Tryz.func74, Tryz.ntmps74
        go_wp2_with (first | (go_at_call 115; refine (ltr_c r _ hr).mono ?_; rw [h1]; rintro e w1 ⟨rfl, rfl⟩) | (go_at_call 116; refine (dig_c r _ hr).mono ?_; rw [h2]; rintro e w1 ⟨rfl, rfl⟩))
        go_ret
        exact ⟨by simp [g3], b1 _ _⟩
    · go_enter Tryz.func74, Tryz.ntmps74
      go_wp2_with (first | (go_at_call 115; refine (ltr_c r _ hr).mono ?_; rw [h1]; rintro e w1 ⟨rfl, rfl⟩) | (go_at_call 116; refine (dig_c r _ hr).mono ?_; rw [h2]; rintro e w1 ⟨rfl, rfl⟩))
      go_ret
      exact ⟨by simp, b1 _ _⟩
  · go_enter Tryz.func74, Tryz.ntmps74
    go_wp2_with (first | (go_at_call 115; refine (ltr_c r _ hr).mono ?_; rw [h1]; rintro e w1 ⟨rfl, rfl⟩) | (go_at_call 116; refine (dig_c r _ hr).mono ?_; rw [h2]; rintro e w1 ⟨rfl, rfl⟩))
    go_ret
    exact ⟨by simp, b1 _ _⟩
theorem takes_3 (t : ByteArray) (a r : Nat) (w : World) (hr : r ≤ 2147483647) :
    Calls Tryz.prog 74 #[pcv 3 t a, .int .i32 (r : Nat)] w fun e w' => e = .returned (.bool (tks 3 t.data.toList r)) ∧ Below w.heap.size w w' := by
  have e0 : tks 3 t.data.toList r = (r == 61 && (t.data.toList == [33] || t.data.toList == [60])) := rfl
  rw [e0]
  clear e0
  by_cases h3 : r = 61
  · subst h3
    by_cases h1 : t = ⟨#[33]⟩
    · subst h1
      go_enter Tryz.func74, Tryz.ntmps74
      go_wp2
      go_ret
      exact ⟨by simp, b1 _ _⟩
    · have g1 : (t.data.toList == [33]) = false := by rw [beq_eq_false_iff_ne]; exact fun e => h1 (bytes_eq.1 e)
      have n1 : ¬ t.toList = [33] := str_nel fun e => h1 (bytes_eq.1 e)
      by_cases h2 : t = ⟨#[60]⟩
      · subst h2
        clear h1 g1 n1
        go_enter Tryz.func74, Tryz.ntmps74
        go_wp2
        go_ret
        exact ⟨by simp, b1 _ _⟩
      · have g2 : (t.data.toList == [60]) = false := by rw [beq_eq_false_iff_ne]; exact fun e => h2 (bytes_eq.1 e)
        have n2 : ¬ t.toList = [60] := str_nel fun e => h2 (bytes_eq.1 e)
        rw [g1, g2]
        clear g1 g2
        go_enter Tryz.func74, Tryz.ntmps74
        go_wp2
        go_ret
        exact ⟨by simp [n1, n2], b1 _ _⟩
  · have g3 : ¬ (r : Int) = 61 := by omega
    have g4 : (r == 61) = false := by simpa using h3
    rw [g4]
    clear g4 h3
    go_enter Tryz.func74, Tryz.ntmps74
    go_wp2
    go_ret
    exact ⟨by simp, b1 _ _⟩
theorem takes_c (k : Nat) (t : ByteArray) (a r : Nat) (w : World) (hk : k ≤ 4) (hr : r ≤ 2147483647) :
    Calls Tryz.prog 74 #[pcv k t a, .int .i32 (r : Nat)] w fun e w' => e = .returned (.bool (tks k t.data.toList r)) ∧ Below w.heap.size w w' := by
  match k, hk with
  | 0, _ => exact takes_0 t a r w hr
  | 1, _ => exact takes_1 t a r w hr
  | 2, _ => exact takes_2 t a r w hr
  | 3, _ => exact takes_3 t a r w hr
  | 4, _ => exact takes_4 t a r w hr
end Go.Proofs.YtafnlhnenmpfoaaGreatDoor
namespace Go.Proofs.YtafnlhnenmpfoaaGreatDoor
open Go.ChangeShapes Go.WideShapes Go.ChangeAt Go.RowKit Go.Shelf
set_option linter.unusedVariables false

def atoiLay_ren : Go.Shelf.Ren := ⟨fun | 172 => 120 | 244 => 136 | 245 => 137 | 247 => 152 | 279 => 153 | 280 => 154 | 281 => 155 | 282 => 156 | 287 => 159 | 316 => 160 | 171 => 131 | 205 => 161 | 321 => 167 | 322 => 168 | 243 => 149 | 246 => 158 | 283 => 163 | 284 => 164 | 285 => 165 | 286 => 166 | 129 => 170 | 317 => 169 | 318 => 171 | 319 => 172 | 320 => 173 | 337 => 174 | 338 => 175 | n => n, fun | 9 => 9 | 3 => 3 | 75 => 127 | 76 => 128 | 4 => 4 | 5 => 5 | 167 => 154 | 37 => 88 | 0 => 0 | 85 => 155 | 2 => 2 | 168 => 157 | 53 => 161 | 175 => 162 | 46 => 164 | 210 => 166 | 127 => 175 | 145 => 178 | 143 => 176 | 21 => 21 | 171 => 169 | 173 => 172 | 212 => 180 | 51 => 181 | 20 => 20 | 213 => 182 | 232 => 185 | 233 => 186 | 80 => 187 | n => n, fun | 15 => 4 | 16 => 5 | 17 => 6 | 18 => 7 | 19 => 8 | n => n⟩
theorem atoiLay : Go.Proofs.LaysC.n172 Tryz.prog atoiLay_ren := {
  mixed := by kernel_rfl
  f129 := Tryz.func170.trans (congrArg some (by kernel_rfl))
  f171 := Tryz.func131.trans (congrArg some (by kernel_rfl))
  f172 := Tryz.func120.trans (congrArg some (by kernel_rfl))
  f205 := Tryz.func161.trans (congrArg some (by kernel_rfl))
  f243 := Tryz.func149.trans (congrArg some (by kernel_rfl))
  f244 := Tryz.func136.trans (congrArg some (by kernel_rfl))
  f245 := Tryz.func137.trans (congrArg some (by kernel_rfl))
  f246 := Tryz.func158.trans (congrArg some (by kernel_rfl))
  f247 := Tryz.func152.trans (congrArg some (by kernel_rfl))
  f279 := Tryz.func153.trans (congrArg some (by kernel_rfl))
  f280 := Tryz.func154.trans (congrArg some (by kernel_rfl))
  f281 := Tryz.func155.trans (congrArg some (by kernel_rfl))
  f282 := Tryz.func156.trans (congrArg some (by kernel_rfl))
  f283 := Tryz.func163.trans (congrArg some (by kernel_rfl))
  f284 := Tryz.func164.trans (congrArg some (by kernel_rfl))
  f285 := Tryz.func165.trans (congrArg some (by kernel_rfl))
  f286 := Tryz.func166.trans (congrArg some (by kernel_rfl))
  f287 := Tryz.func159.trans (congrArg some (by kernel_rfl))
  f316 := Tryz.func160.trans (congrArg some (by kernel_rfl))
  f317 := Tryz.func169.trans (congrArg some (by kernel_rfl))
  f318 := Tryz.func171.trans (congrArg some (by kernel_rfl))
  f319 := Tryz.func172.trans (congrArg some (by kernel_rfl))
  f320 := Tryz.func173.trans (congrArg some (by kernel_rfl))
  f321 := Tryz.func167.trans (congrArg some (by kernel_rfl))
  f322 := Tryz.func168.trans (congrArg some (by kernel_rfl))
  f337 := Tryz.func174.trans (congrArg some (by kernel_rfl))
  f338 := Tryz.func175.trans (congrArg some (by kernel_rfl))
  t0 := Tryz.underlying0
  a0 := Tryz.isAgg0
  z0 := Tryz.sizeOf0
  v0 := Tryz.zeroValue0
  t2 := Tryz.underlying2
  a2 := Tryz.isAgg2
  z2 := Tryz.sizeOf2
  v2 := Tryz.zeroValue2
  t3 := Tryz.underlying3
  a3 := Tryz.isAgg3
  z3 := Tryz.sizeOf3
  v3 := Tryz.zeroValue3
  t4 := Tryz.underlying4
  a4 := Tryz.isAgg4
  z4 := Tryz.sizeOf4
  v4 := Tryz.zeroValue4
  t5 := Tryz.underlying5
  a5 := Tryz.isAgg5
  z5 := Tryz.sizeOf5
  v5 := Tryz.zeroValue5
  t9 := Tryz.underlying9
  a9 := Tryz.isAgg9
  z9 := Tryz.sizeOf9
  v9 := Tryz.zeroValue9
  t20 := Tryz.underlying20
  a20 := Tryz.isAgg20
  z20 := Tryz.sizeOf20
  v20 := Tryz.zeroValue20
  t21 := Tryz.underlying21
  a21 := Tryz.isAgg21
  z21 := Tryz.sizeOf21
  v21 := Tryz.zeroValue21
  t37 := Tryz.underlying88
  a37 := Tryz.isAgg88
  z37 := Tryz.sizeOf88
  v37 := Tryz.zeroValue88
  t46 := Tryz.underlying164
  a46 := Tryz.isAgg164
  z46 := Tryz.sizeOf164
  v46 := Tryz.zeroValue164
  t51 := Tryz.underlying181
  a51 := Tryz.isAgg181
  z51 := Tryz.sizeOf181
  v51 := Tryz.zeroValue181
  t53 := Tryz.underlying161
  a53 := Tryz.isAgg161
  z53 := Tryz.sizeOf161
  v53 := Tryz.zeroValue161
  t75 := Tryz.underlying127
  a75 := Tryz.isAgg127
  z75 := Tryz.sizeOf127
  v75 := Tryz.zeroValue127
  t76 := Tryz.underlying128
  a76 := Tryz.isAgg128
  z76 := Tryz.sizeOf128
  v76 := Tryz.zeroValue128
  t85 := Tryz.underlying155
  a85 := Tryz.isAgg155
  z85 := Tryz.sizeOf155
  v85 := Tryz.zeroValue155
  t127 := Tryz.underlying175
  a127 := Tryz.isAgg175
  z127 := Tryz.sizeOf175
  v127 := Tryz.zeroValue175
  t143 := Tryz.underlying176
  a143 := Tryz.isAgg176
  z143 := Tryz.sizeOf176
  v143 := Tryz.zeroValue176
  t145 := Tryz.underlying178
  a145 := Tryz.isAgg178
  z145 := Tryz.sizeOf178
  v145 := Tryz.zeroValue178
  t167 := Tryz.underlying154
  a167 := Tryz.isAgg154
  z167 := Tryz.sizeOf154
  v167 := Tryz.zeroValue154
  t168 := Tryz.underlying157
  a168 := Tryz.isAgg157
  z168 := Tryz.sizeOf157
  v168 := Tryz.zeroValue157
  t171 := Tryz.underlying169
  a171 := Tryz.isAgg169
  z171 := Tryz.sizeOf169
  v171 := Tryz.zeroValue169
  t173 := Tryz.underlying172
  a173 := Tryz.isAgg172
  z173 := Tryz.sizeOf172
  v173 := Tryz.zeroValue172
  t175 := Tryz.underlying162
  a175 := Tryz.isAgg162
  z175 := Tryz.sizeOf162
  v175 := Tryz.zeroValue162
  t210 := Tryz.underlying166
  a210 := Tryz.isAgg166
  z210 := Tryz.sizeOf166
  v210 := Tryz.zeroValue166
  t212 := Tryz.underlying180
  a212 := Tryz.isAgg180
  z212 := Tryz.sizeOf180
  v212 := Tryz.zeroValue180
  t213 := Tryz.underlying182
  a213 := Tryz.isAgg182
  z213 := Tryz.sizeOf182
  t232 := Tryz.underlying185
  a232 := Tryz.isAgg185
  z232 := Tryz.sizeOf185
  v232 := Tryz.zeroValue185
  t233 := Tryz.underlying186
  a233 := Tryz.isAgg186
  z233 := Tryz.sizeOf186
  v233 := Tryz.zeroValue186
  g15 := by kernel_rfl
  g16 := by kernel_rfl
  g17 := by kernel_rfl
  g18 := by kernel_rfl
  g19 := by kernel_rfl
  t80 := Tryz.underlying187
  a80 := Tryz.isAgg187
  z80 := Tryz.sizeOf187
  v80 := Tryz.zeroValue187
  i0 := by kernel_rfl
  i2 := by kernel_rfl
  i3 := by kernel_rfl
  i4 := by kernel_rfl
  i5 := by kernel_rfl
  i9 := by kernel_rfl
  i20 := by kernel_rfl
  i21 := by kernel_rfl
  i37 := by kernel_rfl
  i46 := by kernel_rfl
  i51 := by kernel_rfl
  i53 := by kernel_rfl
  i75 := by kernel_rfl
  i76 := by kernel_rfl
  i80 := by kernel_rfl
  i85 := by kernel_rfl
  i127 := by kernel_rfl
  i143 := by kernel_rfl
  i145 := by kernel_rfl
  i167 := by kernel_rfl
  i168 := by kernel_rfl
  i171 := by kernel_rfl
  i173 := by kernel_rfl
  i175 := by kernel_rfl
  i210 := by kernel_rfl
  i212 := by kernel_rfl
  i232 := by kernel_rfl
  i233 := by kernel_rfl
  m15 := by kernel_rfl
  m16 := by kernel_rfl
  m17 := by kernel_rfl
  m18 := by kernel_rfl
  m19 := by kernel_rfl
  c0 := by kernel_rfl
  c2 := by kernel_rfl
  c3 := by kernel_rfl
  c4 := by kernel_rfl
  c5 := by kernel_rfl
  c9 := by kernel_rfl
  c20 := by kernel_rfl
  c21 := by kernel_rfl
  c37 := by kernel_rfl
  c46 := by kernel_rfl
  c51 := by kernel_rfl
  c53 := by kernel_rfl
  c75 := by kernel_rfl
  c76 := by kernel_rfl
  c80 := by kernel_rfl
  c85 := by kernel_rfl
  c127 := by kernel_rfl
  c143 := by kernel_rfl
  c145 := by kernel_rfl
  c167 := by kernel_rfl
  c168 := by kernel_rfl
  c171 := by kernel_rfl
  c173 := by kernel_rfl
  c175 := by kernel_rfl
  c210 := by kernel_rfl
  c212 := by kernel_rfl
  c213 := by kernel_rfl
  c232 := by kernel_rfl
  c233 := by kernel_rfl }

theorem gSyn : Tryz.prog.globalNamed "strconv.ErrSyntax" = some 4 := by kernel_rfl
theorem gRan : Tryz.prog.globalNamed "strconv.ErrRange" = some 5 := by kernel_rfl
/-- The two errors of the library lie where the program lays them, each an interface's value. -/
def Ers (w : World) : Prop := (∃ tp p, w.var? Tryz.prog "strconv.ErrSyntax" = some #[.iface tp p]) ∧ (∃ tp p, w.var? Tryz.prog "strconv.ErrRange" = some #[.iface tp p])
theorem var_below {w w' : World} {nm : String} {g : Nat} {cs : Array Value} (hg : Tryz.prog.globalNamed nm = some g) (h : w.var? Tryz.prog nm = some cs) (b : Below w.heap.size w w') : w'.var? Tryz.prog nm = some cs := by
  simp only [World.var?, hg, Option.bind_some] at h ⊢
  have hlt : g < w.heap.size := by
    by_cases hb : g < w.heap.size
    · exact hb
    · have h2 : w.heap[g]? = none := Array.getElem?_eq_none (by omega)
      rw [h2] at h
      cases h
  rw [b.block g hlt]
  exact h
theorem Ers.below {w w' : World} (h : Ers w) (b : Below w.heap.size w w') : Ers w' := by
  obtain ⟨⟨t1, p1, h1⟩, ⟨t2, p2, h2⟩⟩ := h
  exact ⟨⟨t1, p1, var_below gSyn h1 b⟩, ⟨t2, p2, var_below gRan h2 b⟩⟩
/-- What Atoi answers. -/
def AtoiOut (l : List UInt8) (v : Int) (ev : Value) : Prop := (Lib.atoiAll l = .ok v ∧ ev = .nilIface) ∨ ((∀ u, Lib.atoiAll l ≠ .ok u) ∧ ∃ t N, ev = .iface t (.pointer (some ⟨N, 0, none⟩)))
theorem atoi_c (s : ByteArray) (w : World) (hs : s.size ≤ 281474976710656) (hE : Ers w) :
    Calls Tryz.prog 120 #[.string s] w fun e w' => ∃ v ev, e = .returned (.tuple #[.int .i64 v, ev]) ∧ AtoiOut s.data.toList v ev ∧ Below w.heap.size w w' := by
  obtain ⟨⟨t1, p1, h1⟩, ⟨t2, p2, h2⟩⟩ := hE
  cases h : Lib.atoiAll s.data.toList with
  | ok v =>
    have hc : Calls Tryz.prog 120 #[.string s] w _ := Any.strconv_Atoi_ok atoiLay s (by omega) v h w
    refine hc.mono ?_
    rintro e w' ⟨rfl, hw⟩
    refine ⟨v, _, rfl, .inl ⟨h, rfl⟩, ?_⟩
    rcases hw with rfl | ⟨t, rfl⟩
    · exact Below.refl _ _
    · exact Lib.bytesWorld_below _ _ _
  | range =>
    have hc : Calls Tryz.prog 120 #[.string s] w _ := Any.strconv_Atoi_range_var atoiLay s hs h t2 p2 w h2
    refine hc.mono ?_
    rintro e w' ⟨N, rfl, _, _, hb⟩
    exact ⟨_, _, rfl, .inr ⟨(fun u hu => by rw [h] at hu; cases hu), _, N, rfl⟩, hb⟩
  | _ =>
    have hc : Calls Tryz.prog 120 #[.string s] w _ := Any.strconv_Atoi_syntax_var atoiLay s hs h t1 p1 w h1
    refine hc.mono ?_
    rintro e w' ⟨N, rfl, _, _, hb⟩
    exact ⟨_, _, rfl, .inr ⟨(fun u hu => by rw [h] at hu; cases hu), _, N, rfl⟩, hb⟩
end Go.Proofs.YtafnlhnenmpfoaaGreatDoor
