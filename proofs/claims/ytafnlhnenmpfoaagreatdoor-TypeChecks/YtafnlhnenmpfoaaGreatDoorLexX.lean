/- The laws of package lex: are two lists of tokens the same? The first calls. -/
import Derived.Test.YtafnlhnenmpfoaaGreatDoorLexA
import Derived.Lib.OthersKept
import Derived.Test.YtafnlhnenmpfoaaGreatDoorRows
namespace Go.Proofs.YtafnlhnenmpfoaaGreatDoor
open Go.ChangeShapes Go.WideShapes Go.ChangeAt Go.RowKit
set_option linter.unusedVariables false

/-- The words of the language. -/
def wd (k : Nat) : ByteArray := ⟨(wordsL.getD k []).toArray⟩
def wordsA : Array Value := #[.string (wd 0), .string (wd 1), .string (wd 2), .string (wd 3), .string (wd 4), .string (wd 5), .string (wd 6), .string (wd 7), .string (wd 8), .string (wd 9), .string (wd 10), .string (wd 11), .string (wd 12), .string (wd 13), .string (wd 14), .string (wd 15), .string (wd 16), .string (wd 17), .string (wd 18), .string (wd 19), .string (wd 20), .string (wd 21), .string (wd 22), .string (wd 23), .string (wd 24), .string (wd 25), .string (wd 26)]
theorem wix0 (w : World) : (Instr.index 142 (.agg wordsA) (.int .i64 0)).run Tryz.prog w = .ok (.string (wd 0)) w := by kernel_rfl
theorem wix1 (w : World) : (Instr.index 142 (.agg wordsA) (.int .i64 1)).run Tryz.prog w = .ok (.string (wd 1)) w := by kernel_rfl
theorem wix2 (w : World) : (Instr.index 142 (.agg wordsA) (.int .i64 2)).run Tryz.prog w = .ok (.string (wd 2)) w := by kernel_rfl
theorem wix3 (w : World) : (Instr.index 142 (.agg wordsA) (.int .i64 3)).run Tryz.prog w = .ok (.string (wd 3)) w := by kernel_rfl
theorem wix4 (w : World) : (Instr.index 142 (.agg wordsA) (.int .i64 4)).run Tryz.prog w = .ok (.string (wd 4)) w := by kernel_rfl
theorem wix5 (w : World) : (Instr.index 142 (.agg wordsA) (.int .i64 5)).run Tryz.prog w = .ok (.string (wd 5)) w := by kernel_rfl
theorem wix6 (w : World) : (Instr.index 142 (.agg wordsA) (.int .i64 6)).run Tryz.prog w = .ok (.string (wd 6)) w := by kernel_rfl
theorem wix7 (w : World) : (Instr.index 142 (.agg wordsA) (.int .i64 7)).run Tryz.prog w = .ok (.string (wd 7)) w := by kernel_rfl
theorem wix8 (w : World) : (Instr.index 142 (.agg wordsA) (.int .i64 8)).run Tryz.prog w = .ok (.string (wd 8)) w := by kernel_rfl
theorem wix9 (w : World) : (Instr.index 142 (.agg wordsA) (.int .i64 9)).run Tryz.prog w = .ok (.string (wd 9)) w := by kernel_rfl
theorem wix10 (w : World) : (Instr.index 142 (.agg wordsA) (.int .i64 10)).run Tryz.prog w = .ok (.string (wd 10)) w := by kernel_rfl
theorem wix11 (w : World) : (Instr.index 142 (.agg wordsA) (.int .i64 11)).run Tryz.prog w = .ok (.string (wd 11)) w := by kernel_rfl
theorem wix12 (w : World) : (Instr.index 142 (.agg wordsA) (.int .i64 12)).run Tryz.prog w = .ok (.string (wd 12)) w := by kernel_rfl
theorem wix13 (w : World) : (Instr.index 142 (.agg wordsA) (.int .i64 13)).run Tryz.prog w = .ok (.string (wd 13)) w := by kernel_rfl
theorem wix14 (w : World) : (Instr.index 142 (.agg wordsA) (.int .i64 14)).run Tryz.prog w = .ok (.string (wd 14)) w := by kernel_rfl
theorem wix15 (w : World) : (Instr.index 142 (.agg wordsA) (.int .i64 15)).run Tryz.prog w = .ok (.string (wd 15)) w := by kernel_rfl
theorem wix16 (w : World) : (Instr.index 142 (.agg wordsA) (.int .i64 16)).run Tryz.prog w = .ok (.string (wd 16)) w := by kernel_rfl
theorem wix17 (w : World) : (Instr.index 142 (.agg wordsA) (.int .i64 17)).run Tryz.prog w = .ok (.string (wd 17)) w := by kernel_rfl
theorem wix18 (w : World) : (Instr.index 142 (.agg wordsA) (.int .i64 18)).run Tryz.prog w = .ok (.string (wd 18)) w := by kernel_rfl
theorem wix19 (w : World) : (Instr.index 142 (.agg wordsA) (.int .i64 19)).run Tryz.prog w = .ok (.string (wd 19)) w := by kernel_rfl
theorem wix20 (w : World) : (Instr.index 142 (.agg wordsA) (.int .i64 20)).run Tryz.prog w = .ok (.string (wd 20)) w := by kernel_rfl
theorem wix21 (w : World) : (Instr.index 142 (.agg wordsA) (.int .i64 21)).run Tryz.prog w = .ok (.string (wd 21)) w := by kernel_rfl
theorem wix22 (w : World) : (Instr.index 142 (.agg wordsA) (.int .i64 22)).run Tryz.prog w = .ok (.string (wd 22)) w := by kernel_rfl
theorem wix23 (w : World) : (Instr.index 142 (.agg wordsA) (.int .i64 23)).run Tryz.prog w = .ok (.string (wd 23)) w := by kernel_rfl
theorem wix24 (w : World) : (Instr.index 142 (.agg wordsA) (.int .i64 24)).run Tryz.prog w = .ok (.string (wd 24)) w := by kernel_rfl
theorem wix25 (w : World) : (Instr.index 142 (.agg wordsA) (.int .i64 25)).run Tryz.prog w = .ok (.string (wd 25)) w := by kernel_rfl
theorem wix26 (w : World) : (Instr.index 142 (.agg wordsA) (.int .i64 26)).run Tryz.prog w = .ok (.string (wd 26)) w := by kernel_rfl
theorem wordsA_at (k : Nat) (hk : k < 27) (w : World) : (Instr.index 142 (.agg wordsA) (.int .i64 (k : Nat))).run Tryz.prog w = .ok (.string (wd k)) w := by
  match k, hk with
  | 0, _ => exact wix0 w
  | 1, _ => exact wix1 w
  | 2, _ => exact wix2 w
  | 3, _ => exact wix3 w
  | 4, _ => exact wix4 w
  | 5, _ => exact wix5 w
  | 6, _ => exact wix6 w
  | 7, _ => exact wix7 w
  | 8, _ => exact wix8 w
  | 9, _ => exact wix9 w
  | 10, _ => exact wix10 w
  | 11, _ => exact wix11 w
  | 12, _ => exact wix12 w
  | 13, _ => exact wix13 w
  | 14, _ => exact wix14 w
  | 15, _ => exact wix15 w
  | 16, _ => exact wix16 w
  | 17, _ => exact wix17 w
  | 18, _ => exact wix18 w
  | 19, _ => exact wix19 w
  | 20, _ => exact wix20 w
  | 21, _ => exact wix21 w
  | 22, _ => exact wix22 w
  | 23, _ => exact wix23 w
  | 24, _ => exact wix24 w
  | 25, _ => exact wix25 w
  | 26, _ => exact wix26 w
  | n + 27, h => omega
/-- The table of words. -/
def Wd (w : World) : Prop := ∃ t fr, w.heap[1]? = some (.cells wordsA t fr)
theorem Wd.lt {w : World} (h : Wd w) : 1 < w.heap.size := by
  obtain ⟨t, fr, h⟩ := h
  exact lt_of_block h
theorem Wd.below {w w' : World} (h : Wd w) (b : Below w.heap.size w w') : Wd w' := by
  have hl := h.lt
  obtain ⟨t, fr, h⟩ := h
  exact ⟨t, fr, (b.block _ hl).trans h⟩
theorem wordB_yes {t : List UInt8} (k : Nat) (hk : k < 27) (h : t = wordsL.getD k []) : wordB t = true := by
  subst h
  have hl : wordsL.length = 27 := rfl
  unfold wordB
  rw [List.contains_iff_mem]
  simp only [List.getD, List.getElem?_eq_getElem (by omega : k < wordsL.length), Option.getD_some]
  exact List.getElem_mem _
theorem wordB_no {t : List UInt8} (h : ∀ k, k < 27 → ¬ t = wordsL.getD k []) : wordB t = false := by
  rw [← Bool.not_eq_true]
  unfold wordB
  rw [List.contains_iff_mem, List.mem_iff_getElem]
  rintro ⟨k, hk, e⟩
  have hl : wordsL.length = 27 := rfl
  refine h k (by omega) ?_
  simp only [List.getD, List.getElem?_eq_getElem hk, Option.getD_some]
  exact e.symm
theorem wordsInfo : (Tryz.prog.info? 142).map (·.size) = some wordsA.size := by kernel_rfl
set_option maxRecDepth 100000 in
theorem word_c (s : ByteArray) (w : World) (hW : Wd w) (hs : s.size ≤ maxLen) :
    Calls Tryz.prog 118 #[.string s] w fun e w' => e = .returned (.bool (wordB s.data.toList)) ∧ w' = w := by
  obtain ⟨tt, fr, hg⟩ := hW
  have IX : Hid (∀ k : Nat, k < 27 → (Instr.index 142 (.agg wordsA) (.int .i64 (k : Nat))).run Tryz.prog w = .ok (.string (wd k)) w) := fun k hk => wordsA_at k hk w
  have hsz := wordsInfo
  generalize wordsA = cs at *
  go_enter Tryz.func118, Tryz.ntmps118
  go_wp2_with (refine wpList_load_row rfl 142 _ rfl 1 rfl tt _ fr _ hg Tryz.underlying142 rfl hsz ?_)
  go_loopw [6] (fun v wr => ∃ k : Nat, k ≤ 27 ∧ v = .int .i64 (k : Nat) ∧ (∀ j, j < k → s ≠ wd j) ∧ wr = w) (fun v _ => 27 - (intOf v).toNat)
  case atStart => exact ⟨0, by omega, by go_num, fun j hj => by omega, rfl⟩
  case round =>
    obtain ⟨k, hk, rfl, hin, rfl⟩ := hrel
    by_cases hlt : k < 27
    · have ix := IX.out k hlt
      have hkI : (k : Int) < 27 := by omega
      by_cases he : s = wd k
      · have fin : wordB s.data.toList = true := wordB_yes k hlt (by rw [he]; rfl)
        rw [← he] at ix
        clear he IX
        go_wp2
        go_ret
        exact ⟨by rw [fin]; rfl, rfl⟩
      · have hin' : ∀ j, j < k + 1 → s ≠ wd j := fun j hj => by
          by_cases e : j = k
          · subst e; exact he
          · exact hin j (by omega)
        have heb := str_ne he
        generalize wd k = t at ix he heb
        clear IX hin
        go_wp2
        go_roundw
        case rel => (try ((repeat apply Exists.intro); refine ⟨?_, rfl⟩)); exact ⟨k + 1, by omega, by go_num, hin', by trivial⟩
        case measure => simp [intOf]; omega
    · obtain rfl : k = 27 := by omega
      clear IX
      have fin : wordB s.data.toList = false := wordB_no fun j hj e => hin j hj (bytes_eq.1 (by rw [e]; rfl))
      go_wp2
      go_ret
      exact ⟨by rw [fin]; rfl, rfl⟩
/-- A byte that may stand at a place of a name. -/
def nmc (j : Nat) (c : UInt8) : Bool := sml c.toNat || (j != 0 && (dig c.toNat || c.toNat == 95))
theorem nameB_iff (l : List UInt8) : nameB l = true ↔ 0 < l.length ∧ l.length ≤ 12 ∧ (∀ j (h : j < l.length), nmc j l[j] = true) ∧ wordB l = false := by
  cases l with
  | nil => simp [nameB]
  | cons c r =>
    simp only [nameB, Bool.and_eq_true, decide_eq_true_eq, List.all_eq_true, Bool.not_eq_true', List.length_cons]
    constructor
    · rintro ⟨⟨⟨h1, h2⟩, h3⟩, h4⟩
      refine ⟨by omega, by omega, fun j h => ?_, h4⟩
      cases j with
      | zero => simp [nmc, h2]
      | succ j =>
        have := h3 (r[j]'(by omega)) (List.getElem_mem _)
        simp only [inn] at this
        simp [nmc]
        simpa [Bool.or_eq_true, or_assoc] using this
    · rintro ⟨h1, h2, h3, h4⟩
      refine ⟨⟨⟨by omega, ?_⟩, fun x hx => ?_⟩, h4⟩
      · have := h3 0 (by omega)
        simpa [nmc] using this
      · obtain ⟨j, hj, rfl⟩ := List.mem_iff_getElem.1 hx
        have := h3 (j + 1) (by omega)
        simp only [nmc, List.getElem_cons_succ] at this
        simp only [inn]
        simpa [Bool.or_eq_true, or_assoc] using this
theorem nameB_not {l : List UInt8} (j : Nat) (h : j < l.length) (hn : nmc j l[j] = false) : nameB l = false := by
  rw [← Bool.not_eq_true, nameB_iff]
  rintro ⟨_, _, h3, _⟩
  have := h3 j h
  rw [hn] at this
  cases this
theorem nmc_high (j : Nat) (c : UInt8) (h : 128 ≤ c.toNat) : nmc j c = false := by
  simp [nmc, sml, dig]
  omega
theorem data_get (s : ByteArray) (j : Nat) (h : j < s.size) (h' : j < s.data.toList.length) : s.data.toList[j] = s[j] := by
  rw [Array.getElem_toList]
  rfl
theorem data_len (s : ByteArray) : s.data.toList.length = s.size := Array.length_toList

set_option maxRecDepth 100000 in
set_option maxHeartbeats 2000000 in
theorem name_c (s : ByteArray) (w : World) (hW : Wd w) (hs : s.size ≤ maxLen) :
    Calls Tryz.prog 119 #[.string s] w fun e w' => e = .returned (.bool (nameB s.data.toList)) ∧ Below w.heap.size w w' := by
  have hs' := hs
  unfold maxLen at hs
  have hln := data_len s
  by_cases h0 : s.size = 0
  · have e0 : s = ⟨#[]⟩ := by
      apply ByteArray.ext
      exact Array.eq_empty_of_size_eq_zero h0
    subst e0
    have fin : nameB (⟨#[]⟩ : ByteArray).data.toList = false := rfl
    rw [fin]
    clear fin h0 hln
    go_enter Tryz.func119, Tryz.ntmps119
    go_wp2
    go_ret
    exact ⟨rfl, b0 _⟩
  · by_cases h12 : 12 < s.size
    · have fin : nameB s.data.toList = false := by rw [← Bool.not_eq_true, nameB_iff]; rintro ⟨_, h, _⟩; omega
      rw [fin]
      clear fin hln
      have hne := str_full h0
      have h12I : (12 : Int) < (s.size : Int) := by omega
      go_enter Tryz.func119, Tryz.ntmps119
      go_wp2
      go_ret
      exact ⟨by simp, b0 _⟩
    · have hne := str_full h0
      have h12I : ¬ (12 : Int) < (s.size : Int) := by omega
      have HL : Hid (s.data.toList.length = s.size) := hln
      clear hln
      go_enter Tryz.func119, Tryz.ntmps119
      go_wp2
      go_loopw [3] (fun _ wr => ∃ pos : Nat, wr.heap[w.heap.size]? = some (.stringIter s pos) ∧ pos ≤ s.size ∧ (∀ j (h : j < s.data.toList.length), j < pos → nmc j s.data.toList[j] = true) ∧ Below w.heap.size w wr) (fun _ wr => s.size - wr.iterPos w.heap.size)
      case atStart => exact ⟨0, World.iter_heap w s 0, by omega, fun j _ h => by omega, b1 _ _⟩
      case round =>
        obtain ⟨pos, hit, hps, hin, hbw⟩ := hrel
        by_cases hp : pos < s.size
        · have hpl : pos < s.data.toList.length := by have := HL.out; omega
          by_cases ha : (s[pos]'hp).toNat < 128
          · have hnx : ∀ ty, (Instr.next (.pointer (some ⟨w.heap.size, 0, none⟩)) true ty).run Tryz.prog wr = _ := fun ty => Lib.run_next_ascii_at wr w.heap.size s pos ty hit hp ha
            have hit2 := Lib.iterAt_heap wr w.heap.size s pos (pos + 1) hit
            have hbw2 := Lib.below_iterAt hbw (k := w.heap.size) (by omega) s (pos + 1)
            have hex : nmc pos s.data.toList[pos] = nmc pos s[pos] := by rw [data_get s pos hp hpl]
            have hgo : nmc pos s[pos] = true → ∀ j (h : j < s.data.toList.length), j < pos + 1 → nmc j s.data.toList[j] = true := fun hx j h hj => by
              by_cases e : j = pos
              · subst e; rw [hex]; exact hx
              · exact hin j h (by omega)
            have hno : nmc pos s[pos] = false → nameB s.data.toList = false := fun hx => nameB_not pos hpl (by rw [hex]; exact hx)
            have hme : s.size - (wr.iterAt w.heap.size s (pos + 1)).iterPos w.heap.size < s.size - wr.iterPos w.heap.size := by
              simp only [World.iterPos, hit2, hit]
              omega
            clear hit hbw hin hex
            have hwz : w.heap.size = w.heap.size := rfl
            generalize wr.iterAt w.heap.size s (pos + 1) = w2 at *
            have hnm : nmc pos s[pos] = (sml (s[pos]).toNat || (pos != 0 && (dig (s[pos]).toNat || (s[pos]).toNat == 95))) := rfl
            rw [hnm] at hgo hno
            clear hnm
            generalize hrn : (s[pos]'hp).toNat = r at *
            have hr : r ≤ 2147483647 := by omega
            clear hrn
            have HG : Hid (((sml r || (pos != 0 && (dig r || r == 95))) = true → ∀ j (h : j < s.data.toList.length), j < pos + 1 → nmc j s.data.toList[j] = true) ∧ ((sml r || (pos != 0 && (dig r || r == 95))) = false → nameB s.data.toList = false)) := ⟨hgo, hno⟩
            clear hgo hno
            cases h1 : sml r
            · by_cases hz : pos = 0
              · have fin : nameB s.data.toList = false := HG.out.2 (by simp [h1, hz])
                subst hz
                clear HG hme
                go_wp2_with (go_at_call 135; refine (sml_c r _ hr).mono ?_; rw [h1]; rintro e w1 ⟨rfl, rfl⟩)
                go_ret
                exact ⟨by rw [fin]; rfl, hbw2⟩
              · have hz' : ¬ (pos : Int) = 0 := by omega
                cases h2 : dig r
                · by_cases h3 : r = 95
                  · have RL := HG.out.1 (by simp [h3, hz])
                    clear HG
                    subst h3
                    go_wp2_with (first | (go_at_call 135; refine (sml_c 95 _ hr).mono ?_; rw [h1]; rintro e w1 ⟨rfl, rfl⟩) | (go_at_call 116; refine (dig_c 95 _ hr).mono ?_; rw [h2]; rintro e w1 ⟨rfl, rfl⟩))
                    go_roundw
                    case rel => (try ((repeat apply Exists.intro); refine ⟨?_, rfl⟩)); exact ⟨pos + 1, hit2, by omega, RL, hbw2⟩
                    case measure => exact hme
                  · have fin : nameB s.data.toList = false := HG.out.2 (by simp [h1, h2, h3])
                    have h3' : ¬ (r : Int) = 95 := by omega
                    have h3b : ((r : Int) != 95) = true := by simpa using h3'
                    clear HG hme
                    go_wp2_with (first | (go_at_call 135; refine (sml_c r _ hr).mono ?_; rw [h1]; rintro e w1 ⟨rfl, rfl⟩) | (go_at_call 116; refine (dig_c r _ hr).mono ?_; rw [h2]; rintro e w1 ⟨rfl, rfl⟩))
                    go_ret
                    exact ⟨by rw [fin]; rfl, hbw2⟩
                · have RL := HG.out.1 (by simp [h2, hz])
                  clear HG
                  go_wp2_with (first | (go_at_call 135; refine (sml_c r _ hr).mono ?_; rw [h1]; rintro e w1 ⟨rfl, rfl⟩) | (go_at_call 116; refine (dig_c r _ hr).mono ?_; rw [h2]; rintro e w1 ⟨rfl, rfl⟩))
                  go_roundw
                  case rel => (try ((repeat apply Exists.intro); refine ⟨?_, rfl⟩)); exact ⟨pos + 1, hit2, by omega, RL, hbw2⟩
                  case measure => exact hme
            · have RL := HG.out.1 (by simp [h1])
              clear HG
              go_wp2_with (go_at_call 135; refine (sml_c r _ hr).mono ?_; rw [h1]; rintro e w1 ⟨rfl, rfl⟩)
              go_roundw
              case rel => (try ((repeat apply Exists.intro); refine ⟨?_, rfl⟩)); exact ⟨pos + 1, hit2, by omega, RL, hbw2⟩
              case measure => exact hme
          · have fin : nameB s.data.toList = false := nameB_not pos hpl (by rw [data_get s pos hp hpl]; exact nmc_high _ _ (by omega))
            have hnx : ∀ ty, (Instr.next (.pointer (some ⟨w.heap.size, 0, none⟩)) true ty).run Tryz.prog wr = _ := fun ty => Lib.run_next_any_at wr w.heap.size s pos ty hit hp
            have hbw2 := Lib.below_iterAt hbw (k := w.heap.size) (by omega) s (pos + (Utf8.decode s pos).2)
            have hr := decode_le s pos
            have hr2 := (decode_high s pos hp (by omega)).1
            generalize wr.iterAt w.heap.size s (pos + (Utf8.decode s pos).2) = w2 at *
            generalize (Utf8.decode s pos).1 = r at *
            have h1 : sml r = false := by simp [sml]; omega
            have h2 : dig r = false := by simp [dig]; omega
            have h3' : ¬ (r : Int) = 95 := by omega
            have h3b : ((r : Int) != 95) = true := by simpa using h3'
            clear hit hbw hin ha
            by_cases hz : pos = 0
            · subst hz
              go_wp2_with (go_at_call 135; refine (sml_c r _ hr).mono ?_; rw [h1]; rintro e w1 ⟨rfl, rfl⟩)
              go_ret
              exact ⟨by rw [fin]; rfl, hbw2⟩
            · have hz' : ¬ (pos : Int) = 0 := by omega
              go_wp2_with (first | (go_at_call 135; refine (sml_c r _ hr).mono ?_; rw [h1]; rintro e w1 ⟨rfl, rfl⟩) | (go_at_call 116; refine (dig_c r _ hr).mono ?_; rw [h2]; rintro e w1 ⟨rfl, rfl⟩))
              go_ret
              exact ⟨by rw [fin]; rfl, hbw2⟩
        · have hnx : ∀ ty, (Instr.next (.pointer (some ⟨w.heap.size, 0, none⟩)) true ty).run Tryz.prog wr = _ := fun ty => Lib.run_next_end_at wr w.heap.size s pos ty hit hp
          have hW2 := hW.below hbw
          have fin : nameB s.data.toList = !wordB s.data.toList := by
            have hl := HL.out
            cases hw : wordB s.data.toList
            · exact (nameB_iff _).2 ⟨by omega, by omega, fun j h => hin j h (by omega), hw⟩
            · show _ = false
              rw [← Bool.not_eq_true, nameB_iff]
              rintro ⟨_, _, _, h⟩
              rw [hw] at h
              cases h
          clear hin hit
          go_wp2_with (go_at_call 118; refine (word_c s _ hW2 hs').mono ?_; rintro e w1 ⟨rfl, rfl⟩)
          go_ret
          exact ⟨by rw [fin]; rfl, hbw⟩
end Go.Proofs.YtafnlhnenmpfoaaGreatDoor
namespace Go.Proofs.YtafnlhnenmpfoaaGreatDoor
open Go.ChangeShapes Go.WideShapes Go.ChangeAt Go.RowKit
set_option linter.unusedVariables false

/-- A token's cells. -/
abbrev tka (x : Tk) : Array Value := #[.int .i64 (x.k : Nat), .int .i64 x.n, .string ⟨x.t.toArray⟩, .int .i64 (x.a : Nat)]
theorem back_text (t : ByteArray) : (⟨t.data.toList.toArray⟩ : ByteArray) = t := by cases t; simp
theorem set4 {w : World} {b : Nat} {a0 a1 a2 a3 : Value} {t : TypeId} (v0 v1 v2 v3 : Value) (h : w.heap[b]? = some (.cells #[a0, a1, a2, a3] t (0, 0))) :
    ((((w.setCell ⟨b, 0, none⟩ v0).setCell ⟨b, 1, none⟩ v1).setCell ⟨b, 2, none⟩ v2).setCell ⟨b, 3, none⟩ v3).heap[b]? = some (.cells #[v0, v1, v2, v3] t (0, 0)) := by
  have h0 := heap_setCell_same w b 0 _ t v0 h
  have h1 := heap_setCell_same _ b 1 _ t v1 h0
  have h2 := heap_setCell_same _ b 2 _ t v2 h1
  have h3 := heap_setCell_same _ b 3 _ t v3 h2
  simpa using h3
theorem b2 (w : World) (A B : Obj) : Below w.heap.size w ((w.alloc A).alloc B) := (b1 _ _).trans ((b1 _ _).mono (by simp))
theorem bset4 {w w1 : World} {b : Nat} (v0 v1 v2 v3 : Value) (h : Below w.heap.size w w1) (hb : w.heap.size ≤ b) :
    Below w.heap.size w ((((w1.setCell ⟨b, 0, none⟩ v0).setCell ⟨b, 1, none⟩ v1).setCell ⟨b, 2, none⟩ v2).setCell ⟨b, 3, none⟩ v3) :=
  ((((h.setCell (p := ⟨b, 0, none⟩) hb v0).setCell (p := ⟨b, 1, none⟩) hb v1).setCell (p := ⟨b, 2, none⟩) hb v2).setCell (p := ⟨b, 3, none⟩) hb v3)

theorem head_at (t : ByteArray) (h : 0 < t.size) : t.data.toList.head? = some t[0] := by
  have hl : 0 < t.data.toList.length := by rw [data_len]; exact h
  rw [List.head?_eq_getElem?, List.getElem?_eq_getElem hl, data_get t 0 h hl]
end Go.Proofs.YtafnlhnenmpfoaaGreatDoor
namespace Go.Proofs.YtafnlhnenmpfoaaGreatDoor
open Go.ChangeShapes Go.WideShapes Go.ChangeAt Go.RowKit
set_option linter.unusedVariables false

/-- Is the handle i + 1 in use? -/
def useB (free : List Nat) (i : Nat) : Bool := !(free.contains (i + 1))
def usedL (n : Nat) (free : List Nat) : List Value := (List.range n).map fun i => .bool (useB free i)
def intsL (l : List Nat) : List Value := l.map fun h : Nat => .int .i64 (h : Int)
structure WF (room n : Nat) (free : List Nat) : Prop where
  nodup : free.Nodup
  mem : ∀ h ∈ free, 1 ≤ h ∧ h ≤ n
  le : n ≤ room
  room : room ≤ 4096

theorem WF.last {room n : Nat} {fs : List Nat} {h : Nat} (hw : WF room n (fs ++ [h])) : 1 ≤ h ∧ h ≤ n := hw.mem h (by simp)
theorem WF.push {room n : Nat} (hw : WF room n []) (h : n < room) : WF room (n + 1) [] := ⟨by simp, by simp, h, hw.room⟩
theorem WF.drop {room n : Nat} {free : List Nat} {h : Nat} (hw : WF room n free) (h1 : 1 ≤ h) (h2 : h ≤ n) (hu : useB free (h - 1) = true) : WF room n (free ++ [h]) := by
  have e : h - 1 + 1 = h := by omega
  have hn : h ∉ free := by simpa [useB, e] using hu
  refine ⟨List.nodup_append.2 ⟨hw.nodup, by simp, fun a ha b hb => ?_⟩, fun x hx => ?_, hw.le, hw.room⟩
  · simp at hb; subst hb; intro e; subst e; exact hn ha
  · rcases List.mem_append.1 hx with hx | hx
    · exact hw.mem x hx
    · simp at hx; subst hx; exact ⟨h1, h2⟩
theorem WF.new {room : Nat} (h : room ≤ 4096) : WF room 0 [] := ⟨by simp, by simp, Nat.zero_le _, h⟩

/-- An arena in memory: four labels from L on. -/
def Ar (TA E size : Nat) (w : World) (o : Nat → Nat) (L p room n : Nat) (cs : List Value) (free : List Nat) : Prop :=
  ∃ vt vi vf, Blk w o L p (.cells #[.int .i64 room, vt, vi, vf] TA (0, 0)) ∧ Row w o (L + 1) E size vt n cs ∧ Row w o (L + 2) 4 1 vi n (usedL n free) ∧ Row w o (L + 3) 3 1 vf free.length (intsL free) ∧ WF room n free

def IL (L : Nat) : Nat → Prop := fun k => L ≤ k ∧ k < L + 4
theorem Ar.step {TA E size : Nat} {I : Nat → Prop} {w w' : World} {o o' : Nat → Nat} {L p room n : Nat} {cs : List Value} {free : List Nat} (h : Ar TA E size w o L p room n cs free) (s : Step I w o w' o') (hi : ∀ k, IL L k → ¬ I k) : Ar TA E size w' o' L p room n cs free := by
  obtain ⟨vt, vi, vf, h0, h1, h2, h3, h4⟩ := h
  exact ⟨vt, vi, vf, h0.step s (hi _ ⟨by omega, by omega⟩), h1.step s (hi _ ⟨by omega, by omega⟩), h2.step s (hi _ ⟨by omega, by omega⟩), h3.step s (hi _ ⟨by omega, by omega⟩), h4⟩
theorem Ar.wf {TA E size : Nat} {w : World} {o : Nat → Nat} {L p room n : Nat} {cs : List Value} {free : List Nat} (h : Ar TA E size w o L p room n cs free) : WF room n free := by
  obtain ⟨vt, vi, vf, h0, h1, h2, h3, h4⟩ := h
  exact h4
theorem Ar.lt {TA E size : Nat} {w : World} {o : Nat → Nat} {L p room n : Nat} {cs : List Value} {free : List Nat} (h : Ar TA E size w o L p room n cs free) : p < w.heap.size := by
  obtain ⟨vt, vi, vf, h0, _⟩ := h
  exact h0.lt

theorem Blk.set {w : World} {o : Nat → Nat} {i b : Nat} {cs : Array Value} {t : TypeId} (h : Blk w o i b (.cells cs t (0, 0))) (j : Nat) (u : Value) : Blk (w.setCell ⟨b, j, none⟩ u) o i b (.cells (cs.setIfInBounds j u) t (0, 0)) :=
  ⟨heap_setCell_same w b j cs t u h.1, h.2⟩
theorem setStep (I : Nat → Prop) (w : World) (o : Nat → Nat) (p : Addr) (u : Value) (hp : I (o p.block)) : Step I w o (w.setCell p u) o := (Step.refl I w o).setCell p u hp
theorem IL.mk {L k : Nat} (h1 : L ≤ k) (h2 : k < L + 4) : IL L k := ⟨h1, h2⟩

theorem allocStep (I : Nat → Prop) (w : World) (o : Nat → Nat) (ob : Obj) : Step I w o (w.alloc ob) o := (Step.refl I w o).alloc ob

theorem Ar.drewN {TA E size : Nat} {w : World} {o : Nat → Nat} {L p room n : Nat} {cs : List Value} {free : List Nat} (h : Ar TA E size w o L p room n cs free) (m : Nat) : Ar TA E size (w.drewN m) o L p room n cs free := h

/-- A new arena. -/
theorem Ar.new {TA E size : Nat} {w : World} {o : Nat → Nat} {L room : Nat} (hr : room ≤ 4096) :
    Ar TA E size (w.alloc (.cells #[.int .i64 room, .slice none 0 0, .slice none 0 0, .slice none 0 0] TA)) (newLab w o L) L w.heap.size room 0 [] [] :=
  ⟨_, _, _, ⟨heap_alloc_new w _, newLab_new (Nat.le_refl _)⟩, Row.nil _ _ _ _ _, Row.nil _ _ _ _ _, Row.nil _ _ _ _ _, WF.new hr⟩
theorem newStep (I : Nat → Prop) (w : World) (o : Nat → Nat) (L : Nat) (ob : Obj) : Step I w o (w.alloc ob) (newLab w o L) :=
  ⟨rfl, rfl, rfl, by simp, fun k hk => newLab_old hk, fun k hk _ => Below.heap_alloc w ob k hk⟩

end Go.Proofs.YtafnlhnenmpfoaaGreatDoor
namespace Go.Proofs.YtafnlhnenmpfoaaGreatDoor
open Go.ChangeShapes Go.WideShapes Go.ChangeAt Go.RowKit
set_option linter.unusedVariables false

/-- What a walk reads of an arena's block. -/
theorem Blk.cells4 {w : World} {o : Nat → Nat} {i b : Nat} {a0 a1 a2 a3 : Value} {t : TypeId} (h : Blk w o i b (.cells #[a0, a1, a2, a3] t (0, 0))) :
    w.cell? ⟨b, 0, none⟩ = some a0 ∧ w.cell? ⟨b, 1, none⟩ = some a1 ∧ w.cell? ⟨b, 2, none⟩ = some a2 ∧ w.cell? ⟨b, 3, none⟩ = some a3 ∧ ∀ j, w.frozen? ⟨b, j, none⟩ = false := by
  refine ⟨?_, ?_, ?_, ?_, fun j => frozen_of_row w b j _ t h.1⟩ <;> simp [cell_of_row w b _ _ t (0, 0) h.1]


end Go.Proofs.YtafnlhnenmpfoaaGreatDoor
namespace Go.Proofs.YtafnlhnenmpfoaaGreatDoor
open Go.ChangeShapes Go.WideShapes Go.ChangeAt Go.RowKit
set_option linter.unusedVariables false

theorem ext_list (s : ByteArray) (a b : Nat) : (s.extract a b).data.toList = (s.data.toList.drop a).take (b - a) := by
  rw [ByteArray.data_extract, Array.toList_extract, List.extract_eq_take_drop]
theorem ext_eq (s : ByteArray) (a b : Nat) : s.extract a b = ⟨((s.data.toList.drop a).take (b - a)).toArray⟩ := by
  rw [← ext_list, back_text]
theorem drop_at (l : List UInt8) (pos : Nat) (h : pos < l.length) : l.drop pos = l[pos] :: l.drop (pos + 1) := List.drop_eq_getElem_cons h
theorem Step.ofBelow {I : Nat → Prop} {w w' : World} (o : Nat → Nat) (h : Below w.heap.size w w') : Step I w o w' o := ⟨h.os, h.tape, h.output, h.size, fun _ _ => rfl, fun k hk _ => h.block k hk⟩
theorem info_parts {P : Program} {t : TypeId} {z : Option Value} {s b : Nat} (h : (P.info? t).map (fun i => (i.zero, i.size, i.bytes)) = some (z, s, b)) : ∃ i, P.info? t = some i ∧ i.zero = z ∧ i.size = s ∧ i.bytes = b := by
  cases hi : P.info? t with
  | none => rw [hi] at h; cases h
  | some i =>
    rw [hi] at h
    injection h with h
    exact ⟨i, rfl, (congrArg (·.1) h), (congrArg (·.2.1) h), (congrArg (·.2.2) h)⟩
theorem Blk.cells3 {w : World} {o : Nat → Nat} {i b : Nat} {a0 a1 a2 : Value} {t : TypeId} (h : Blk w o i b (.cells #[a0, a1, a2] t (0, 0))) :
    w.cell? ⟨b, 0, none⟩ = some a0 ∧ w.cell? ⟨b, 1, none⟩ = some a1 ∧ w.cell? ⟨b, 2, none⟩ = some a2 ∧ ∀ j, w.frozen? ⟨b, j, none⟩ = false := by
  refine ⟨?_, ?_, ?_, fun j => frozen_of_row w b j _ t h.1⟩ <;> simp [cell_of_row w b _ _ t (0, 0) h.1]
theorem new_four_at {w : World} {s : Nat} (hs : w.heap.size = s) (x y z q : Value) (t : TypeId) : ∀ j u, [x, y, z, q][j]? = some u → (w.alloc (.cells #[x, y, z, q] t)).cell? ((⟨s, 0, none⟩ : Addr).add j) = some u := by
  subst hs
  intro j u hj
  match j, hj with
  | 0, hj => simp at hj; subst hj; simp [Addr.add]
  | 1, hj => simp at hj; subst hj; simp [Addr.add]
  | 2, hj => simp at hj; subst hj; simp [Addr.add]
  | 3, hj => simp at hj; subst hj; simp [Addr.add]
end Go.Proofs.YtafnlhnenmpfoaaGreatDoor
namespace Go.Proofs.YtafnlhnenmpfoaaGreatDoor
open Go.ChangeShapes Go.WideShapes Go.ChangeAt Go.RowKit
set_option linter.unusedVariables false

theorem Blk.set3 {w : World} {o : Nat → Nat} {i b : Nat} {a0 a1 a2 : Value} {t : TypeId} (h : Blk w o i b (.cells #[a0, a1, a2] t (0, 0))) (u v x : Value) :
    Blk (((w.setCell ⟨b, 0, none⟩ u).setCell ⟨b, 1, none⟩ v).setCell ⟨b, 2, none⟩ x) o i b (.cells #[u, v, x] t (0, 0)) := by
  have := ((h.set 0 u).set 1 v).set 2 x
  simpa using this
end Go.Proofs.YtafnlhnenmpfoaaGreatDoor
namespace Go.Proofs.YtafnlhnenmpfoaaGreatDoor
open Go.ChangeShapes Go.WideShapes Go.ChangeAt Go.RowKit
set_option linter.unusedVariables false

theorem infoToken : (Tryz.prog.info? 47).map (fun i => (i.zero, i.size, i.bytes)) = some (some (.agg #[.int .i64 0, .int .i64 0, .string ⟨#[]⟩, .int .i64 0]), 4, 40) := by kernel_rfl
/-- The cells of tokens. -/
def tcells (ts : List Tk) : List Value := ts.flatMap fun x => [.int .i64 (x.k : Nat), .int .i64 x.n, .string ⟨x.t.toArray⟩, .int .i64 (x.a : Nat)]
theorem tcells_more (ts : List Tk) (x : Tk) : tcells (ts ++ [x]) = tcells ts ++ [.int .i64 (x.k : Nat), .int .i64 x.n, .string ⟨x.t.toArray⟩, .int .i64 (x.a : Nat)] := by
  simp [tcells]
theorem tcells_at : ∀ (ts : List Tk) (i : Nat) (h : i < ts.length), (tcells ts)[i * 4]? = some (.int .i64 ((ts[i]).k : Nat)) ∧ (tcells ts)[i * 4 + 1]? = some (.int .i64 (ts[i]).n) ∧ (tcells ts)[i * 4 + 2]? = some (.string ⟨(ts[i]).t.toArray⟩) ∧ (tcells ts)[i * 4 + 3]? = some (.int .i64 ((ts[i]).a : Nat))
  | [], i, h => by cases h
  | p :: r, 0, h => ⟨rfl, rfl, rfl, rfl⟩
  | p :: r, i + 1, h => by
    have e : tcells (p :: r) = .int .i64 (p.k : Nat) :: .int .i64 p.n :: .string ⟨p.t.toArray⟩ :: .int .i64 (p.a : Nat) :: tcells r := rfl
    have e1 : (i + 1) * 4 = i * 4 + 1 + 1 + 1 + 1 := by omega
    have ih := tcells_at r i (by simpa using h)
    rw [e, e1]
    exact ih
/-- Tokens, and X behind them. -/
def preR : List Tk → Res → Res
  | [], X => X
  | x :: r, X => consR x (preR r X)
theorem preR_more (ts : List Tk) (x : Tk) (X : Res) : preR (ts ++ [x]) X = preR ts (consR x X) := by
  induction ts with
  | nil => rfl
  | cons y r ih => simp only [List.cons_append, preR, ih]
theorem preR_inl (ts : List Tk) (e : Nat × Nat) : preR ts (.inl e) = .inl e := by
  induction ts with
  | nil => rfl
  | cons y r ih => simp only [preR, ih]; rfl
theorem preR_inr (ts us : List Tk) : preR ts (.inr us) = .inr (ts ++ us) := by
  induction ts with
  | nil => rfl
  | cons y r ih => simp only [preR, ih]; rfl
theorem ptok_err {k : Nat} {t : List UInt8} {a e : Nat} (h : ptok k t a = .inl e) : e = 110 ∨ e = 111 ∨ e = 112 := by
  unfold ptok at h
  split at h
  · unfold wrdT at h
    repeat' split at h
    all_goals first | (injection h with h; omega) | cases h
  · unfold numT at h
    repeat' split at h
    all_goals first | (injection h with h; omega) | cases h
  · unfold sgnT at h
    split at h
    all_goals first | (injection h with h; omega) | cases h
  · injection h with h
    omega
/-- What Scan answers: tokens that are new memory, or an error and its place. -/
def ScanOut (w w' : World) (v : Value) (er at0 : Int) (R : Res) : Prop :=
  (∃ e p, R = .inl (e, p) ∧ v = .slice none 0 0 ∧ er = (e : Nat) ∧ at0 = (p : Nat)) ∨ (∃ ts, R = .inr ts ∧ er = 0 ∧ at0 = 0 ∧ w'.ownsRow w.heap.size 47 4 v ts.length (tcells ts))
theorem Row.fresh {I : Nat → Prop} {w w' : World} {o' : Nat → Nat} {i : Nat} {e : TypeId} {size : Nat} {v : Value} {n : Nat} {xs : List Value} (r : Row w' o' (i + 1) e size v n xs) (s : Step I w (fun _ => 0) w' o') : w'.ownsRow w.heap.size e size v n xs := by
  refine ⟨r.1.1, ?_⟩
  rcases r.1.2 with h | ⟨g, cap, cur, rfl, hb, rest⟩
  · exact .inl h
  · refine .inr ⟨g, cap, cur, rfl, ?_, rest⟩
    by_cases hg : g < w.heap.size
    · have h1 := s.lab g hg
      have h2 := r.2 g rfl
      omega
    · omega
end Go.Proofs.YtafnlhnenmpfoaaGreatDoor
namespace Go.Proofs.YtafnlhnenmpfoaaGreatDoor
open Go.ChangeShapes Go.WideShapes Go.ChangeAt Go.RowKit
set_option linter.unusedVariables false

theorem bdr {B : Nat} {w w' : World} (h : Below B w w') (n : Nat) : Below B w (w'.drewN n) := ⟨h.os, h.tape, h.output, h.size, h.block⟩
end Go.Proofs.YtafnlhnenmpfoaaGreatDoor
namespace Go.Proofs.YtafnlhnenmpfoaaGreatDoor
open Go.ChangeShapes Go.WideShapes Go.ChangeAt Go.RowKit
set_option linter.unusedVariables false

/-- A slice that reads as tokens. -/
def Tks (w : World) (v : Value) (ts : List Tk) : Prop :=
  ∃ ao cap, v = .slice ao ts.length cap ∧ (0 < ts.length → ∃ g, ao = some ⟨g, 0, none⟩ ∧ g < w.heap.size ∧ ∀ j, j < ts.length * 4 → w.cell? ⟨g, j, none⟩ = (tcells ts)[j]?)
theorem Tks.of {w : World} {b : Nat} {v : Value} {ts : List Tk} (h : w.ownsRow b 47 4 v ts.length (tcells ts)) : Tks w v ts := by
  have r : Row w (fun _ => 0) 0 47 4 v ts.length (tcells ts) := ⟨ownsRow_base0 h, fun _ _ => rfl⟩
  by_cases h0 : 0 < ts.length
  · obtain ⟨g, cap, rfl, _, _, _, hlt, hc, _⟩ := r.pos h0
    exact ⟨_, _, rfl, fun _ => ⟨g, rfl, hlt, hc⟩⟩
  · obtain ⟨ao, cap, rfl⟩ := r.form
    exact ⟨ao, cap, rfl, fun h => absurd h h0⟩
theorem Tks.nil (w : World) : Tks w (.slice none 0 0) [] := ⟨none, 0, rfl, fun h => by cases h⟩
theorem Tks.below {w w' : World} {v : Value} {ts : List Tk} (h : Tks w v ts) (b : Below w.heap.size w w') : Tks w' v ts := by
  obtain ⟨ao, cap, rfl, hx⟩ := h
  refine ⟨ao, cap, rfl, fun h0 => ?_⟩
  obtain ⟨g, rfl, hlt, hc⟩ := hx h0
  exact ⟨g, rfl, Nat.lt_of_lt_of_le hlt b.size, fun j hj => (b.cell (p := ⟨g, j, none⟩) hlt).trans (hc j hj)⟩
/-- What is read of one token. -/
theorem Tks.at {w : World} {v : Value} {ts : List Tk} (h : Tks w v ts) (i : Nat) (hi : i < ts.length) : ∃ g cap, v = .slice (some ⟨g, 0, none⟩) ts.length cap ∧
    w.cell? ⟨g, i * 4, none⟩ = some (.int .i64 ((ts[i]).k : Nat)) ∧ w.cell? ⟨g, i * 4 + 1, none⟩ = some (.int .i64 (ts[i]).n) ∧ w.cell? ⟨g, i * 4 + 2, none⟩ = some (.string ⟨(ts[i]).t.toArray⟩) ∧ w.cell? ⟨g, i * 4 + 3, none⟩ = some (.int .i64 ((ts[i]).a : Nat)) := by
  obtain ⟨ao, cap, rfl, hx⟩ := h
  obtain ⟨g, rfl, hlt, hc⟩ := hx (by omega)
  obtain ⟨p0, p1, p2, p3⟩ := tcells_at ts i hi
  exact ⟨g, cap, rfl, (hc _ (by omega)).trans p0, (hc _ (by omega)).trans p1, (hc _ (by omega)).trans p2, (hc _ (by omega)).trans p3⟩
theorem ScanOut.inr {w w' : World} {v : Value} {er at0 : Int} {R : Res} {ts : List Tk} (h : ScanOut w w' v er at0 R) (hR : R = .inr ts) : er = 0 ∧ at0 = 0 ∧ w'.ownsRow w.heap.size 47 4 v ts.length (tcells ts) := by
  rcases h with ⟨e, p, h1, _⟩ | ⟨us, h1, h2, h3, h4⟩
  · rw [h1] at hR; cases hR
  · rw [h1] at hR
    injection hR with hR
    subst hR
    exact ⟨h2, h3, h4⟩
theorem ScanOut.inl {w w' : World} {v : Value} {er at0 : Int} {R : Res} {e p : Nat} (h : ScanOut w w' v er at0 R) (hR : R = .inl (e, p)) : er = (e : Nat) ∧ at0 = (p : Nat) ∧ v = .slice none 0 0 := by
  rcases h with ⟨e', p', h1, h2, h3, h4⟩ | ⟨us, h1, _⟩
  · rw [h1] at hR
    injection hR with hR
    injection hR with a b
    subst a b
    exact ⟨h3, h4, h2⟩
  · rw [h1] at hR; cases hR
end Go.Proofs.YtafnlhnenmpfoaaGreatDoor
