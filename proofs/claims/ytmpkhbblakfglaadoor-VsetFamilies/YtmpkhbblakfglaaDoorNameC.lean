/- Names: what is one; the words of the language, which are none. -/
import Derived.Test.YtmpkhbblakfglaaDoorFamM
namespace Go.Proofs.YtmpkhbblakfglaaDoor
open Go.ChangeShapes Go.WideShapes Go.ChangeAt Go.RowKit Go.Maps
set_option linter.unusedVariables false

/-- The words of the language. -/
def word9 (k : Nat) : ByteArray :=
  match k with
  | 0 => ⟨#[97, 108, 108]⟩
  | 1 => ⟨#[97, 110, 100]⟩
  | 2 => ⟨#[97, 114, 111, 117, 110, 100]⟩
  | 3 => ⟨#[98, 108, 111, 99, 107]⟩
  | 4 => ⟨#[98, 111, 116, 116, 108, 101, 110, 101, 99, 107]⟩
  | 5 => ⟨#[99, 111, 110, 110, 101, 99, 116, 101, 100]⟩
  | 6 => ⟨#[99, 111, 117, 110, 116]⟩
  | 7 => ⟨#[100, 101, 103, 114, 101, 101]⟩
  | 8 => ⟨#[101, 108, 115, 101]⟩
  | 9 => ⟨#[102, 97, 108, 115, 101]⟩
  | 10 => ⟨#[105, 102]⟩
  | 11 => ⟨#[105, 110]⟩
  | 12 => ⟨#[108, 101, 97, 115, 116]⟩
  | 13 => ⟨#[109, 97, 120]⟩
  | 14 => ⟨#[109, 105, 110]⟩
  | 15 => ⟨#[109, 111, 115, 116]⟩
  | 16 => ⟨#[110, 111, 116]⟩
  | 17 => ⟨#[111, 114]⟩
  | 18 => ⟨#[114, 101, 112]⟩
  | 19 => ⟨#[115, 105, 122, 101]⟩
  | 20 => ⟨#[115, 111, 109, 101]⟩
  | 21 => ⟨#[115, 117, 109]⟩
  | 22 => ⟨#[116, 104, 101, 110]⟩
  | 23 => ⟨#[116, 111, 116, 97, 108]⟩
  | 24 => ⟨#[116, 114, 117, 101]⟩
  | 25 => ⟨#[118, 97, 108, 117, 101]⟩
  | 26 => ⟨#[118, 101, 114, 116, 105, 99, 101, 115]⟩
  | _ => ⟨#[]⟩
def wordsA : Array Value := #[.string (word9 0), .string (word9 1), .string (word9 2), .string (word9 3), .string (word9 4), .string (word9 5), .string (word9 6), .string (word9 7), .string (word9 8), .string (word9 9), .string (word9 10), .string (word9 11), .string (word9 12), .string (word9 13), .string (word9 14), .string (word9 15), .string (word9 16), .string (word9 17), .string (word9 18), .string (word9 19), .string (word9 20), .string (word9 21), .string (word9 22), .string (word9 23), .string (word9 24), .string (word9 25), .string (word9 26)]
theorem wix0 (w : World) : (Instr.index 87 (.agg wordsA) (.int .i64 0)).run Tryd.prog w = .ok (.string (word9 0)) w := by kernel_rfl
theorem wix1 (w : World) : (Instr.index 87 (.agg wordsA) (.int .i64 1)).run Tryd.prog w = .ok (.string (word9 1)) w := by kernel_rfl
theorem wix2 (w : World) : (Instr.index 87 (.agg wordsA) (.int .i64 2)).run Tryd.prog w = .ok (.string (word9 2)) w := by kernel_rfl
theorem wix3 (w : World) : (Instr.index 87 (.agg wordsA) (.int .i64 3)).run Tryd.prog w = .ok (.string (word9 3)) w := by kernel_rfl
theorem wix4 (w : World) : (Instr.index 87 (.agg wordsA) (.int .i64 4)).run Tryd.prog w = .ok (.string (word9 4)) w := by kernel_rfl
theorem wix5 (w : World) : (Instr.index 87 (.agg wordsA) (.int .i64 5)).run Tryd.prog w = .ok (.string (word9 5)) w := by kernel_rfl
theorem wix6 (w : World) : (Instr.index 87 (.agg wordsA) (.int .i64 6)).run Tryd.prog w = .ok (.string (word9 6)) w := by kernel_rfl
theorem wix7 (w : World) : (Instr.index 87 (.agg wordsA) (.int .i64 7)).run Tryd.prog w = .ok (.string (word9 7)) w := by kernel_rfl
theorem wix8 (w : World) : (Instr.index 87 (.agg wordsA) (.int .i64 8)).run Tryd.prog w = .ok (.string (word9 8)) w := by kernel_rfl
theorem wix9 (w : World) : (Instr.index 87 (.agg wordsA) (.int .i64 9)).run Tryd.prog w = .ok (.string (word9 9)) w := by kernel_rfl
theorem wix10 (w : World) : (Instr.index 87 (.agg wordsA) (.int .i64 10)).run Tryd.prog w = .ok (.string (word9 10)) w := by kernel_rfl
theorem wix11 (w : World) : (Instr.index 87 (.agg wordsA) (.int .i64 11)).run Tryd.prog w = .ok (.string (word9 11)) w := by kernel_rfl
theorem wix12 (w : World) : (Instr.index 87 (.agg wordsA) (.int .i64 12)).run Tryd.prog w = .ok (.string (word9 12)) w := by kernel_rfl
theorem wix13 (w : World) : (Instr.index 87 (.agg wordsA) (.int .i64 13)).run Tryd.prog w = .ok (.string (word9 13)) w := by kernel_rfl
theorem wix14 (w : World) : (Instr.index 87 (.agg wordsA) (.int .i64 14)).run Tryd.prog w = .ok (.string (word9 14)) w := by kernel_rfl
theorem wix15 (w : World) : (Instr.index 87 (.agg wordsA) (.int .i64 15)).run Tryd.prog w = .ok (.string (word9 15)) w := by kernel_rfl
theorem wix16 (w : World) : (Instr.index 87 (.agg wordsA) (.int .i64 16)).run Tryd.prog w = .ok (.string (word9 16)) w := by kernel_rfl
theorem wix17 (w : World) : (Instr.index 87 (.agg wordsA) (.int .i64 17)).run Tryd.prog w = .ok (.string (word9 17)) w := by kernel_rfl
theorem wix18 (w : World) : (Instr.index 87 (.agg wordsA) (.int .i64 18)).run Tryd.prog w = .ok (.string (word9 18)) w := by kernel_rfl
theorem wix19 (w : World) : (Instr.index 87 (.agg wordsA) (.int .i64 19)).run Tryd.prog w = .ok (.string (word9 19)) w := by kernel_rfl
theorem wix20 (w : World) : (Instr.index 87 (.agg wordsA) (.int .i64 20)).run Tryd.prog w = .ok (.string (word9 20)) w := by kernel_rfl
theorem wix21 (w : World) : (Instr.index 87 (.agg wordsA) (.int .i64 21)).run Tryd.prog w = .ok (.string (word9 21)) w := by kernel_rfl
theorem wix22 (w : World) : (Instr.index 87 (.agg wordsA) (.int .i64 22)).run Tryd.prog w = .ok (.string (word9 22)) w := by kernel_rfl
theorem wix23 (w : World) : (Instr.index 87 (.agg wordsA) (.int .i64 23)).run Tryd.prog w = .ok (.string (word9 23)) w := by kernel_rfl
theorem wix24 (w : World) : (Instr.index 87 (.agg wordsA) (.int .i64 24)).run Tryd.prog w = .ok (.string (word9 24)) w := by kernel_rfl
theorem wix25 (w : World) : (Instr.index 87 (.agg wordsA) (.int .i64 25)).run Tryd.prog w = .ok (.string (word9 25)) w := by kernel_rfl
theorem wix26 (w : World) : (Instr.index 87 (.agg wordsA) (.int .i64 26)).run Tryd.prog w = .ok (.string (word9 26)) w := by kernel_rfl
theorem wordsA_at (k : Nat) (hk : k < 27) (w : World) : (Instr.index 87 (.agg wordsA) (.int .i64 (k : Nat))).run Tryd.prog w = .ok (.string (word9 k)) w := by
  match k, hk with
  | 0, _ => exact wix0 w
  | 1, _ => exact wix1 w
  | 2, _ => exact wix2 w
  | 3, _ => exact wix3 w
  | 4, _ => exact wix4 w
  | 5, _ => exact wix5 w
  | 6, _ => exact wix6 w
  | 7, _ => exact wix7 w
  | 8, _ => exact wix8 w
  | 9, _ => exact wix9 w
  | 10, _ => exact wix10 w
  | 11, _ => exact wix11 w
  | 12, _ => exact wix12 w
  | 13, _ => exact wix13 w
  | 14, _ => exact wix14 w
  | 15, _ => exact wix15 w
  | 16, _ => exact wix16 w
  | 17, _ => exact wix17 w
  | 18, _ => exact wix18 w
  | 19, _ => exact wix19 w
  | 20, _ => exact wix20 w
  | 21, _ => exact wix21 w
  | 22, _ => exact wix22 w
  | 23, _ => exact wix23 w
  | 24, _ => exact wix24 w
  | 25, _ => exact wix25 w
  | 26, _ => exact wix26 w
  | n + 27, h => omega
/-- The table of words. -/
def Wd (w : World) : Prop := ∃ t fr, w.heap[1]? = some (.cells wordsA t fr)
theorem Wd.lt {w : World} (h : Wd w) : 1 < w.heap.size := by
  obtain ⟨t, fr, h⟩ := h
  exact lt_of_block h
theorem Wd.below {w w' : World} (h : Wd w) (b : Below w.heap.size w w') : Wd w' := by
  have hl := h.lt
  obtain ⟨t, fr, h⟩ := h
  exact ⟨t, fr, (b.block _ hl).trans h⟩
/-- The words of a world, under label 0. -/
def WdL (w : World) (o : Nat → Nat) : Prop := Wd w ∧ o 1 = 0
theorem WdL.step {I : Nat → Prop} {w w' : World} {o o' : Nat → Nat} (h : WdL w o) (s : Step I w o w' o') (hi : ¬ I 0) : WdL w' o' := by
  have hl := h.1.lt
  obtain ⟨⟨t, fr, h1⟩, h2⟩ := h
  exact ⟨⟨t, fr, (s.block _ hl (by rw [h2]; exact hi)).trans h1⟩, (s.lab _ hl).trans h2⟩
theorem letter_c (b : Nat) (w : World) (hb : b < 256) :
    Calls Tryd.prog 44 #[.int .u8 (b : Nat)] w fun e w' => e = .returned (.bool (decide (97 ≤ b ∧ b ≤ 122))) ∧ w' = w := by
  by_cases h1 : 97 ≤ b
  · have g1 : (97 : Int) ≤ (b : Int) := by omega
    by_cases h2 : b ≤ 122
    · have g2 : (b : Int) ≤ 122 := by omega
      rw [decide_eq_true ⟨h1, h2⟩]
      go_enter Tryd.func44, Tryd.ntmps44
      go_wp2
      go_ret
      exact ⟨rfl, rfl⟩
    · have g2 : ¬ (b : Int) ≤ 122 := by omega
      have g3 : decide ((b : Int) ≤ 122) = false := decide_eq_false g2
      rw [decide_eq_false (fun h => h2 h.2)]
      go_enter Tryd.func44, Tryd.ntmps44
      go_wp2
      go_ret
      exact ⟨rfl, rfl⟩
  · have g1 : ¬ (97 : Int) ≤ (b : Int) := by omega
    rw [decide_eq_false (fun h => h1 h.1)]
    go_enter Tryd.func44, Tryd.ntmps44
    go_wp2
    go_ret
    exact ⟨rfl, rfl⟩
theorem digit_c (b : Nat) (w : World) (hb : b < 256) :
    Calls Tryd.prog 45 #[.int .u8 (b : Nat)] w fun e w' => e = .returned (.bool (decide (48 ≤ b ∧ b ≤ 57))) ∧ w' = w := by
  by_cases h1 : 48 ≤ b
  · have g1 : (48 : Int) ≤ (b : Int) := by omega
    by_cases h2 : b ≤ 57
    · have g2 : (b : Int) ≤ 57 := by omega
      rw [decide_eq_true ⟨h1, h2⟩]
      go_enter Tryd.func45, Tryd.ntmps45
      go_wp2
      go_ret
      exact ⟨rfl, rfl⟩
    · have g2 : ¬ (b : Int) ≤ 57 := by omega
      have g3 : decide ((b : Int) ≤ 57) = false := decide_eq_false g2
      rw [decide_eq_false (fun h => h2 h.2)]
      go_enter Tryd.func45, Tryd.ntmps45
      go_wp2
      go_ret
      exact ⟨rfl, rfl⟩
  · have g1 : ¬ (48 : Int) ≤ (b : Int) := by omega
    rw [decide_eq_false (fun h => h1 h.1)]
    go_enter Tryd.func45, Tryd.ntmps45
    go_wp2
    go_ret
    exact ⟨rfl, rfl⟩
/-- A text is a word. -/
def isWd (s : ByteArray) : Prop := ∃ j, j < 27 ∧ s = word9 j
theorem str_ne {s t : ByteArray} (h : s ≠ t) : (s.toList == t.toList) = false := by
  rw [beq_eq_false_iff_ne, ByteArray.toList_eq, ByteArray.toList_eq]
  exact fun e => h (ByteArray.ext (Array.toList_inj.1 e))
theorem str_full {s : ByteArray} (h : ¬ s.size = 0) : s.toList.isEmpty = false := by
  rw [ByteArray.toList_eq, List.isEmpty_eq_false_iff]
  intro e
  have h2 : s.data.size = 0 := by rw [← Array.length_toList, e]; rfl
  exact h h2
theorem wordsInfo : (Tryd.prog.info? 87).map (·.size) = some wordsA.size := by kernel_rfl
set_option maxRecDepth 100000 in
theorem word_c (s : ByteArray) (w : World) (hW : Wd w) (hs : s.size ≤ maxLen) :
    Calls Tryd.prog 46 #[.string s] w fun e w' => ∃ b, e = .returned (.bool b) ∧ (b = true ↔ isWd s) ∧ w' = w := by
  obtain ⟨tt, fr, hg⟩ := hW
  have IX : Hid (∀ k : Nat, k < 27 → (Instr.index 87 (.agg wordsA) (.int .i64 (k : Nat))).run Tryd.prog w = .ok (.string (word9 k)) w) := fun k hk => wordsA_at k hk w
  have hsz := wordsInfo
  generalize wordsA = cs at *
  go_enter Tryd.func46, Tryd.ntmps46
  go_wp2_with (refine wpList_load_row rfl 87 _ rfl 1 rfl tt _ fr _ hg Tryd.underlying87 rfl hsz ?_)
  go_loopw [6] (fun v wr => ∃ k : Nat, k ≤ 27 ∧ v = .int .i64 (k : Nat) ∧ (∀ j, j < k → s ≠ word9 j) ∧ wr = w) (fun v _ => 27 - (intOf v).toNat)
  case atStart => exact ⟨0, by omega, by go_num, fun j hj => by omega, rfl⟩
  case round =>
    obtain ⟨k, hk, rfl, hin, rfl⟩ := hrel
    by_cases hlt : k < 27
    · have ix := IX.out k hlt
      have hkI : (k : Int) < 27 := by omega
      by_cases he : s = word9 k
      · have fin : isWd s := ⟨k, hlt, he⟩
        rw [← he] at ix
        clear he IX
        go_wp2
        go_ret
        exact ⟨true, rfl, by simpa using fin, rfl⟩
      · have hin' : ∀ j, j < k + 1 → s ≠ word9 j := fun j hj => by
          by_cases e : j = k
          · subst e; exact he
          · exact hin j (by omega)
        have heb := str_ne he
        generalize word9 k = t at ix he heb
        clear IX hin
        go_wp2
        go_roundw
        case rel => (try ((repeat apply Exists.intro); refine ⟨?_, rfl⟩)); exact ⟨k + 1, by omega, by go_num, hin', by trivial⟩
        case measure => simp [intOf]; omega
    · obtain rfl : k = 27 := by omega
      clear IX
      go_wp2
      go_ret
      exact ⟨false, rfl, by simp only [Bool.false_eq_true, false_iff]; rintro ⟨j, h1, h2⟩; exact hin j h1 h2, rfl⟩
/-- A byte that may stand in a name behind the first one. -/
def inner9 (b : Nat) : Prop := (97 ≤ b ∧ b ≤ 122) ∨ (48 ≤ b ∧ b ≤ 57) ∨ b = 95
/-- A text is a name. -/
def isNm (s : ByteArray) : Prop := 0 < s.size ∧ s.size ≤ 12 ∧ (∀ h : 0 < s.size, 97 ≤ s[0].toNat ∧ s[0].toNat ≤ 122) ∧ (∀ i (h : i < s.size), 0 < i → inner9 s[i].toNat) ∧ ¬ isWd s
set_option maxRecDepth 100000 in
set_option maxHeartbeats 2000000 in
theorem name_c (s : ByteArray) (w : World) (hW : Wd w) (hs : s.size ≤ maxLen) :
    Calls Tryd.prog 34 #[.string s] w fun e w' => ∃ b, e = .returned (.bool b) ∧ (b = true ↔ isNm s) ∧ w' = w := by
  have hs' := hs
  unfold maxLen at hs
  by_cases h0 : s.size = 0
  · have e0 : s = ⟨#[]⟩ := by
      apply ByteArray.ext
      exact Array.eq_empty_of_size_eq_zero h0
    have fin : ¬ isNm s := fun h => by have := h.1; omega
    subst e0
    go_enter Tryd.func34, Tryd.ntmps34
    go_wp2
    go_ret
    exact ⟨false, rfl, by simpa using fin, rfl⟩
  · by_cases h12 : 12 < s.size
    · have fin : ¬ isNm s := fun h => by have := h.2.1; omega
      have hne := str_full h0
      have h12I : (12 : Int) < (s.size : Int) := by omega
      go_enter Tryd.func34, Tryd.ntmps34
      go_wp2
      go_ret
      exact ⟨false, rfl, by simpa using fin, rfl⟩
    · have hne := str_full h0
      have h12I : ¬ (12 : Int) < (s.size : Int) := by omega
      have hpos : 0 < s.size := by omega
      have hposI : (0 : Int) < (s.size : Int) := by omega
      have hb0 : s[0].toNat < 256 := UInt8.toNat_lt _
      by_cases hl0 : 97 ≤ s[0].toNat ∧ s[0].toNat ≤ 122
      · go_enter Tryd.func34, Tryd.ntmps34
        go_wp2_with fail
        refine (letter_c s[0].toNat _ hb0).mono ?_
        rw [decide_eq_true hl0]
        rintro e w1 ⟨rfl, rfl⟩
        go_wp2_with fail
        go_loopw [3] (fun v wr => ∃ k : Nat, 1 ≤ k ∧ k ≤ s.size ∧ v = .int .i64 (k : Nat) ∧ (∀ i (h : i < s.size), 0 < i → i < k → inner9 s[i].toNat) ∧ wr = w1) (fun v _ => s.size - (intOf v).toNat)
        case atStart => exact ⟨1, by omega, by omega, by go_num, fun i _ h1 h2 => by omega, rfl⟩
        case round =>
          obtain ⟨k, hk1, hk, rfl, hin, rfl⟩ := hrel
          by_cases hlt : k < s.size
          · have hkI : (k : Int) < (s.size : Int) := by omega
            have hbk : s[k].toNat < 256 := UInt8.toNat_lt _
            have step : inner9 s[k].toNat → ∀ i (h : i < s.size), 0 < i → i < k + 1 → inner9 s[i].toNat := fun hx i h h1 h2 => by
              by_cases e : i = k
              · subst e; exact hx
              · exact hin i h h1 (by omega)
            by_cases hl : 97 ≤ s[k].toNat ∧ s[k].toNat ≤ 122
            · have RL := step (.inl hl)
              clear step hin
              go_wp2_with fail
              refine (letter_c s[k].toNat _ hbk).mono ?_
              rw [decide_eq_true hl]
              rintro e w1 ⟨rfl, rfl⟩
              go_wp2
              go_roundw
              case rel => (try ((repeat apply Exists.intro); refine ⟨?_, rfl⟩)); exact ⟨k + 1, by omega, by omega, by go_num, RL, by trivial⟩
              case measure => simp [intOf]; omega
            · by_cases hd : 48 ≤ s[k].toNat ∧ s[k].toNat ≤ 57
              · have RL := step (.inr (.inl hd))
                clear step hin
                go_wp2_with fail
                refine (letter_c s[k].toNat _ hbk).mono ?_
                rw [decide_eq_false hl]
                rintro e w1 ⟨rfl, rfl⟩
                go_wp2_with fail
                refine (digit_c s[k].toNat _ hbk).mono ?_
                rw [decide_eq_true hd]
                rintro e w1 ⟨rfl, rfl⟩
                go_wp2
                go_roundw
                case rel => (try ((repeat apply Exists.intro); refine ⟨?_, rfl⟩)); exact ⟨k + 1, by omega, by omega, by go_num, RL, by trivial⟩
                case measure => simp [intOf]; omega
              · by_cases hu : s[k].toNat = 95
                · have RL := step (.inr (.inr hu))
                  clear step hin
                  have HU : Hid (s[k].toNat = 95) := hu
                  clear hu
                  go_wp2_with fail
                  refine (letter_c s[k].toNat _ hbk).mono ?_
                  rw [decide_eq_false hl]
                  rintro e w1 ⟨rfl, rfl⟩
                  go_wp2_with fail
                  refine (digit_c s[k].toNat _ hbk).mono ?_
                  rw [decide_eq_false hd]
                  rintro e w1 ⟨rfl, rfl⟩
                  have huI := HU.out
                  clear hl hd hbk
                  go_wp2
                  go_roundw
                  case rel => (try ((repeat apply Exists.intro); refine ⟨?_, rfl⟩)); exact ⟨k + 1, by omega, by omega, by go_num, RL, by trivial⟩
                  case measure => simp [intOf]; omega
                · have fin : ¬ isNm s := fun h => by
                    rcases h.2.2.2.1 k hlt (by omega) with h | h | h
                    · exact hl h
                    · exact hd h
                    · exact hu h
                  clear step hin
                  have huI : ¬ (s[k].toNat : Int) = 95 := by omega
                  go_wp2_with fail
                  refine (letter_c s[k].toNat _ hbk).mono ?_
                  rw [decide_eq_false hl]
                  rintro e w1 ⟨rfl, rfl⟩
                  go_wp2_with fail
                  refine (digit_c s[k].toNat _ hbk).mono ?_
                  rw [decide_eq_false hd]
                  rintro e w1 ⟨rfl, rfl⟩
                  go_wp2
                  go_ret
                  exact ⟨false, rfl, by simpa using fin, rfl⟩
          · obtain rfl : k = s.size := by omega
            go_wp2_with fail
            refine (word_c s _ hW hs').mono ?_
            rintro e w1 ⟨b, rfl, hb, rfl⟩
            have fin : (!b) = true ↔ isNm s := by
              rw [Bool.not_eq_true', ← Bool.not_eq_true, hb]
              exact ⟨fun h => ⟨hpos, by omega, fun _ => hl0, fun i h1 h2 => hin i h1 h2 h1, h⟩, fun h => h.2.2.2.2⟩
            go_wp2
            go_ret
            exact ⟨!b, rfl, fin, rfl⟩
      · have fin : ¬ isNm s := fun h => hl0 (h.2.2.1 hpos)
        go_enter Tryd.func34, Tryd.ntmps34
        go_wp2_with fail
        refine (letter_c s[0].toNat _ hb0).mono ?_
        rw [decide_eq_false hl0]
        rintro e w1 ⟨rfl, rfl⟩
        go_wp2
        go_ret
        exact ⟨false, rfl, by simpa using fin, rfl⟩
end Go.Proofs.YtmpkhbblakfglaaDoor
