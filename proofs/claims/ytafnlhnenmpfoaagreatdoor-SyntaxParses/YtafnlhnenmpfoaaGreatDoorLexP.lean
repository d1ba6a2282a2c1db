/- Package lex: the token of a piece, or why it is none. -/
import Derived.Test.YtafnlhnenmpfoaaGreatDoorLexA
import Derived.Lib.OthersKept
namespace Go.Proofs.YtafnlhnenmpfoaaGreatDoor
open Go.ChangeShapes Go.WideShapes Go.ChangeAt Go.RowKit
set_option linter.unusedVariables false

/-- The words of the language. -/
def wd (k : Nat) : ByteArray := ⟨(wordsL.getD k []).toArray⟩
def wordsA : Array Value := #[.string (wd 0), .string (wd 1), .string (wd 2), .string (wd 3), .string (wd 4), .string (wd 5), .string (wd 6), .string (wd 7), .string (wd 8), .string (wd 9), .string (wd 10), .string (wd 11), .string (wd 12), .string (wd 13), .string (wd 14), .string (wd 15), .string (wd 16), .string (wd 17), .string (wd 18), .string (wd 19), .string (wd 20), .string (wd 21), .string (wd 22), .string (wd 23), .string (wd 24), .string (wd 25), .string (wd 26)]
theorem wix0 (w : World) : (Instr.index 142 (.agg wordsA) (.int .i64 0)).run Tryz.prog w = .ok (.string (wd 0)) w := by kernel_rfl
theorem wix1 (w : World) : (Instr.index 142 (.agg wordsA) (.int .i64 1)).run Tryz.prog w = .ok (.string (wd 1)) w := by kernel_rfl
theorem wix2 (w : World) : (Instr.index 142 (.agg wordsA) (.int .i64 2)).run Tryz.prog w = .ok (.string (wd 2)) w := by kernel_rfl
theorem wix3 (w : World) : (Instr.index 142 (.agg wordsA) (.int .i64 3)).run Tryz.prog w = .ok (.string (wd 3)) w := by kernel_rfl
theorem wix4 (w : World) : (Instr.index 142 (.agg wordsA) (.int .i64 4)).run Tryz.prog w = .ok (.string (wd 4)) w := by kernel_rfl
theorem wix5 (w : World) : (Instr.index 142 (.agg wordsA) (.int .i64 5)).run Tryz.prog w = .ok (.string (wd 5)) w := by kernel_rfl
theorem wix6 (w : World) : (Instr.index 142 (.agg wordsA) (.int .i64 6)).run Tryz.prog w = .ok (.string (wd 6)) w := by kernel_rfl
theorem wix7 (w : World) : (Instr.index 142 (.agg wordsA) (.int .i64 7)).run Tryz.prog w = .ok (.string (wd 7)) w := by kernel_rfl
theorem wix8 (w : World) : (Instr.index 142 (.agg wordsA) (.int .i64 8)).run Tryz.prog w = .ok (.string (wd 8)) w := by kernel_rfl
theorem wix9 (w : World) : (Instr.index 142 (.agg wordsA) (.int .i64 9)).run Tryz.prog w = .ok (.string (wd 9)) w := by kernel_rfl
theorem wix10 (w : World) : (Instr.index 142 (.agg wordsA) (.int .i64 10)).run Tryz.prog w = .ok (.string (wd 10)) w := by kernel_rfl
theorem wix11 (w : World) : (Instr.index 142 (.agg wordsA) (.int .i64 11)).run Tryz.prog w = .ok (.string (wd 11)) w := by kernel_rfl
theorem wix12 (w : World) : (Instr.index 142 (.agg wordsA) (.int .i64 12)).run Tryz.prog w = .ok (.string (wd 12)) w := by kernel_rfl
theorem wix13 (w : World) : (Instr.index 142 (.agg wordsA) (.int .i64 13)).run Tryz.prog w = .ok (.string (wd 13)) w := by kernel_rfl
theorem wix14 (w : World) : (Instr.index 142 (.agg wordsA) (.int .i64 14)).run Tryz.prog w = .ok (.string (wd 14)) w := by kernel_rfl
theorem wix15 (w : World) : (Instr.index 142 (.agg wordsA) (.int .i64 15)).run Tryz.prog w = .ok (.string (wd 15)) w := by kernel_rfl
theorem wix16 (w : World) : (Instr.index 142 (.agg wordsA) (.int .i64 16)).run Tryz.prog w = .ok (.string (wd 16)) w := by kernel_rfl
theorem wix17 (w : World) : (Instr.index 142 (.agg wordsA) (.int .i64 17)).run Tryz.prog w = .ok (.string (wd 17)) w := by kernel_rfl
theorem wix18 (w : World) : (Instr.index 142 (.agg wordsA) (.int .i64 18)).run Tryz.prog w = .ok (.string (wd 18)) w := by kernel_rfl
theorem wix19 (w : World) : (Instr.index 142 (.agg wordsA) (.int .i64 19)).run Tryz.prog w = .ok (.string (wd 19)) w := by kernel_rfl
theorem wix20 (w : World) : (Instr.index 142 (.agg wordsA) (.int .i64 20)).run Tryz.prog w = .ok (.string (wd 20)) w := by kernel_rfl
theorem wix21 (w : World) : (Instr.index 142 (.agg wordsA) (.int .i64 21)).run Tryz.prog w = .ok (.string (wd 21)) w := by kernel_rfl
theorem wix22 (w : World) : (Instr.index 142 (.agg wordsA) (.int .i64 22)).run Tryz.prog w = .ok (.string (wd 22)) w := by kernel_rfl
theorem wix23 (w : World) : (Instr.index 142 (.agg wordsA) (.int .i64 23)).run Tryz.prog w = .ok (.string (wd 23)) w := by kernel_rfl
theorem wix24 (w : World) : (Instr.index 142 (.agg wordsA) (.int .i64 24)).run Tryz.prog w = .ok (.string (wd 24)) w := by kernel_rfl
theorem wix25 (w : World) : (Instr.index 142 (.agg wordsA) (.int .i64 25)).run Tryz.prog w = .ok (.string (wd 25)) w := by kernel_rfl
theorem wix26 (w : World) : (Instr.index 142 (.agg wordsA) (.int .i64 26)).run Tryz.prog w = .ok (.string (wd 26)) w := by kernel_rfl
theorem wordsA_at (k : Nat) (hk : k < 27) (w : World) : (Instr.index 142 (.agg wordsA) (.int .i64 (k : Nat))).run Tryz.prog w = .ok (.string (wd k)) w := by
  match k, hk with
  | 0, _ => exact wix0 w
  | 1, _ => exact wix1 w
  | 2, _ => exact wix2 w
  | 3, _ => exact wix3 w
  | 4, _ => exact wix4 w
  | 5, _ => exact wix5 w
  | 6, _ => exact wix6 w
  | 7, _ => exact wix7 w
  | 8, _ => exact wix8 w
  | 9, _ => exact wix9 w
  | 10, _ => exact wix10 w
  | 11, _ => exact wix11 w
  | 12, _ => exact wix12 w
  | 13, _ => exact wix13 w
  | 14, _ => exact wix14 w
  | 15, _ => exact wix15 w
  | 16, _ => exact wix16 w
  | 17, _ => exact wix17 w
  | 18, _ => exact wix18 w
  | 19, _ => exact wix19 w
  | 20, _ => exact wix20 w
  | 21, _ => exact wix21 w
  | 22, _ => exact wix22 w
  | 23, _ => exact wix23 w
  | 24, _ => exact wix24 w
  | 25, _ => exact wix25 w
  | 26, _ => exact wix26 w
  | n + 27, h => omega
/-- The table of words. -/
def Wd (w : World) : Prop := ∃ t fr, w.heap[1]? = some (.cells wordsA t fr)
theorem Wd.lt {w : World} (h : Wd w) : 1 < w.heap.size := by
  obtain ⟨t, fr, h⟩ := h
  exact lt_of_block h
theorem Wd.below {w w' : World} (h : Wd w) (b : Below w.heap.size w w') : Wd w' := by
  have hl := h.lt
  obtain ⟨t, fr, h⟩ := h
  exact ⟨t, fr, (b.block _ hl).trans h⟩
theorem wordB_yes {t : List UInt8} (k : Nat) (hk : k < 27) (h : t = wordsL.getD k []) : wordB t = true := by
  subst h
  have hl : wordsL.length = 27 := rfl
  unfold wordB
  rw [List.contains_iff_mem]
  simp only [List.getD, List.getElem?_eq_getElem (by omega : k < wordsL.length), Option.getD_some]
  exact List.getElem_mem _
theorem wordB_no {t : List UInt8} (h : ∀ k, k < 27 → ¬ t = wordsL.getD k []) : wordB t = false := by
  rw [← Bool.not_eq_true]
  unfold wordB
  rw [List.contains_iff_mem, List.mem_iff_getElem]
  rintro ⟨k, hk, e⟩
  have hl : wordsL.length = 27 := rfl
  refine h k (by omega) ?_
  simp only [List.getD, List.getElem?_eq_getElem hk, Option.getD_some]
  exact e.symm
theorem wordsInfo : (Tryz.prog.info? 142).map (·.size) = some wordsA.size := by kernel_rfl
set_option maxRecDepth 100000 in
theorem word_c (s : ByteArray) (w : World) (hW : Wd w) (hs : s.size ≤ maxLen) :
    Calls Tryz.prog 118 #[.string s] w fun e w' => e = .returned (.bool (wordB s.data.toList)) ∧ w' = w := by
  obtain ⟨tt, fr, hg⟩ := hW
  have IX : Hid (∀ k : Nat, k < 27 → (Instr.index 142 (.agg wordsA) (.int .i64 (k : Nat))).run Tryz.prog w = .ok (.string (wd k)) w) := fun k hk => wordsA_at k hk w
  have hsz := wordsInfo
  generalize wordsA = cs at *
  go_enter Tryz.func118, Tryz.ntmps118
  go_wp2_with (refine wpList_load_row rfl 142 _ rfl 1 rfl tt _ fr _ hg Tryz.underlying142 rfl hsz ?_)
  go_loopw [6] (fun v wr => ∃ k : Nat, k ≤ 27 ∧ v = .int .i64 (k : Nat) ∧ (∀ j, j < k → s ≠ wd j) ∧ wr = w) (fun v _ => 27 - (intOf v).toNat)
  case atStart => exact ⟨0, by omega, by go_num, fun j hj => by omega, rfl⟩
  case round =>
    obtain ⟨k, hk, rfl, hin, rfl⟩ := hrel
    by_cases hlt : k < 27
    · have ix := IX.out k hlt
      have hkI : (k : Int) < 27 := by omega
      by_cases he : s = wd k
      · have fin : wordB s.data.toList = true := wordB_yes k hlt (by rw [he]; rfl)
        rw [← he] at ix
        clear he IX
        go_wp2
        go_ret
        exact ⟨by rw [fin]; rfl, rfl⟩
      · have hin' : ∀ j, j < k + 1 → s ≠ wd j := fun j hj => by
          by_cases e : j = k
          · subst e; exact he
          · exact hin j (by omega)
        have heb := str_ne he
        generalize wd k = t at ix he heb
        clear IX hin
        go_wp2
        go_roundw
        case rel => (try ((repeat apply Exists.intro); refine ⟨?_, rfl⟩)); exact ⟨k + 1, by omega, by go_num, hin', by trivial⟩
        case measure => simp [intOf]; omega
    · obtain rfl : k = 27 := by omega
      clear IX
      have fin : wordB s.data.toList = false := wordB_no fun j hj e => hin j hj (bytes_eq.1 (by rw [e]; rfl))
      go_wp2
      go_ret
      exact ⟨by rw [fin]; rfl, rfl⟩
/-- A byte that may stand at a place of a name. -/
def nmc (j : Nat) (c : UInt8) : Bool := sml c.toNat || (j != 0 && (dig c.toNat || c.toNat == 95))
theorem nameB_iff (l : List UInt8) : nameB l = true ↔ 0 < l.length ∧ l.length ≤ 12 ∧ (∀ j (h : j < l.length), nmc j l[j] = true) ∧ wordB l = false := by
  cases l with
  | nil => simp [nameB]
  | cons c r =>
    simp only [nameB, Bool.and_eq_true, decide_eq_true_eq, List.all_eq_true, Bool.not_eq_true', List.length_cons]
    constructor
    · rintro ⟨⟨⟨h1, h2⟩, h3⟩, h4⟩
      refine ⟨by omega, by omega, fun j h => ?_, h4⟩
      cases j with
      | zero => simp [nmc, h2]
      | succ j =>
        have := h3 (r[j]'(by omega)) (List.getElem_mem _)
        simp only [inn] at this
        simp [nmc]
        simpa [Bool.or_eq_true, or_assoc] using this
    · rintro ⟨h1, h2, h3, h4⟩
      refine ⟨⟨⟨by omega, ?_⟩, fun x hx => ?_⟩, h4⟩
      · have := h3 0 (by omega)
        simpa [nmc] using this
      · obtain ⟨j, hj, rfl⟩ := List.mem_iff_getElem.1 hx
        have := h3 (j + 1) (by omega)
        simp only [nmc, List.getElem_cons_succ] at this
        simp only [inn]
        simpa [Bool.or_eq_true, or_assoc] using this
theorem nameB_not {l : List UInt8} (j : Nat) (h : j < l.length) (hn : nmc j l[j] = false) : nameB l = false := by
  rw [← Bool.not_eq_true, nameB_iff]
  rintro ⟨_, _, h3, _⟩
  have := h3 j h
  rw [hn] at this
  cases this
theorem nmc_high (j : Nat) (c : UInt8) (h : 128 ≤ c.toNat) : nmc j c = false := by
  simp [nmc, sml, dig]
  omega
theorem data_get (s : ByteArray) (j : Nat) (h : j < s.size) (h' : j < s.data.toList.length) : s.data.toList[j] = s[j] := by
  rw [Array.getElem_toList]
  rfl
theorem data_len (s : ByteArray) : s.data.toList.length = s.size := Array.length_toList

set_option maxRecDepth 100000 in
set_option maxHeartbeats 2000000 in
theorem name_c (s : ByteArray) (w : World) (hW : Wd w) (hs : s.size ≤ maxLen) :
    Calls Tryz.prog 119 #[.string s] w fun e w' => e = .returned (.bool (nameB s.data.toList)) ∧ Below w.heap.size w w' := by
  have hs' := hs
  unfold maxLen at hs
  have hln := data_len s
  by_cases h0 : s.size = 0
  · have e0 : s = ⟨#[]⟩ := by
      apply ByteArray.ext
      exact Array.eq_empty_of_size_eq_zero h0
    subst e0
    have fin : nameB (⟨#[]⟩ : ByteArray).data.toList = false := rfl
    rw [fin]
    clear fin h0 hln
    go_enter Tryz.func119, Tryz.ntmps119
    go_wp2
    go_ret
    exact ⟨rfl, b0 _⟩
  · by_cases h12 : 12 < s.size
    · have fin : nameB s.data.toList = false := by rw [← Bool.not_eq_true, nameB_iff]; rintro ⟨_, h, _⟩; omega
      rw [fin]
      clear fin hln
      have hne := str_full h0
      have h12I : (12 : Int) < (s.size : Int) := by omega
      go_enter Tryz.func119, Tryz.ntmps119
      go_wp2
      go_ret
      exact ⟨by simp, b0 _⟩
    · have hne := str_full h0
      have h12I : ¬ (12 : Int) < (s.size : Int) := by omega
      have HL : Hid (s.data.toList.length = s.size) := hln
      clear hln
      go_enter Tryz.func119, Tryz.ntmps119
      go_wp2
      go_loopw [3] (fun _ wr => ∃ pos : Nat, wr.heap[w.heap.size]? = some (.stringIter s pos) ∧ pos ≤ s.size ∧ (∀ j (h : j < s.data.toList.length), j < pos → nmc j s.data.toList[j] = true) ∧ Below w.heap.size w wr) (fun _ wr => s.size - wr.iterPos w.heap.size)
      case atStart => exact ⟨0, World.iter_heap w s 0, by omega, fun j _ h => by omega, b1 _ _⟩
      case round =>
        obtain ⟨pos, hit, hps, hin, hbw⟩ := hrel
        by_cases hp : pos < s.size
        · have hpl : pos < s.data.toList.length := by have := HL.out; omega
          by_cases ha : (s[pos]'hp).toNat < 128
          · have hnx : ∀ ty, (Instr.next (.pointer (some ⟨w.heap.size, 0, none⟩)) true ty).run Tryz.prog wr = _ := fun ty => Lib.run_next_ascii_at wr w.heap.size s pos ty hit hp ha
            have hit2 := Lib.iterAt_heap wr w.heap.size s pos (pos + 1) hit
            have hbw2 := Lib.below_iterAt hbw (k := w.heap.size) (by omega) s (pos + 1)
            have hex : nmc pos s.data.toList[pos] = nmc pos s[pos] := by rw [data_get s pos hp hpl]
            have hgo : nmc pos s[pos] = true → ∀ j (h : j < s.data.toList.length), j < pos + 1 → nmc j s.data.toList[j] = true := fun hx j h hj => by
              by_cases e : j = pos
              · subst e; rw [hex]; exact hx
              · exact hin j h (by omega)
            have hno : nmc pos s[pos] = false → nameB s.data.toList = false := fun hx => nameB_not pos hpl (by rw [hex]; exact hx)
            have hme : s.size - (wr.iterAt w.heap.size s (pos + 1)).iterPos w.heap.size < s.size - wr.iterPos w.heap.size := by
              simp only [World.iterPos, hit2, hit]
              omega
            clear hit hbw hin hex
            have hwz : w.heap.size = w.heap.size := rfl
            generalize wr.iterAt w.heap.size s (pos + 1) = w2 at *
            have hnm : nmc pos s[pos] = (sml (s[pos]).toNat || (pos != 0 && (dig (s[pos]).toNat || (s[pos]).toNat == 95))) := rfl
            rw [hnm] at hgo hno
            clear hnm
            generalize hrn : (s[pos]'hp).toNat = r at *
            have hr : r ≤ 2147483647 := by omega
            clear hrn
            have HG : Hid (((sml r || (pos != 0 && (dig r || r == 95))) = true → ∀ j (h : j < s.data.toList.length), j < pos + 1 → nmc j s.data.toList[j] = true) ∧ ((sml r || (pos != 0 && (dig r || r == 95))) = false → nameB s.data.toList = false)) := ⟨hgo, hno⟩
            clear hgo hno
            cases h1 : sml r
            · by_cases hz : pos = 0
              · have fin : nameB s.data.toList = false := HG.out.2 (by simp [h1, hz])
                subst hz
                clear HG hme
                go_wp2_with (go_at_call 135; refine (sml_c r _ hr).mono ?_; rw [h1]; rintro e w1 ⟨rfl, rfl⟩)
                go_ret
                exact ⟨by rw [fin]; rfl, hbw2⟩
              · have hz' : ¬ (pos : Int) = 0 := by omega
                cases h2 : dig r
                · by_cases h3 : r = 95
                  · have RL := HG.out.1 (by simp [h3, hz])
                    clear HG
                    subst h3
                    go_wp2_with (first | (go_at_call 135; refine (sml_c 95 _ hr).mono ?_; rw [h1]; rintro e w1 ⟨rfl, rfl⟩) | (go_at_call 116; refine (dig_c 95 _ hr).mono ?_; rw [h2]; rintro e w1 ⟨rfl, rfl⟩))
                    go_roundw
                    case rel => (try ((repeat apply Exists.intro); refine ⟨?_, rfl⟩)); exact ⟨pos + 1, hit2, by omega, RL, hbw2⟩
                    case measure => exact hme
                  · have fin : nameB s.data.toList = false := HG.out.2 (by simp [h1, h2, h3])
                    have h3' : ¬ (r : Int) = 95 := by omega
                    have h3b : ((r : Int) != 95) = true := by simpa using h3'
                    clear HG hme
                    go_wp2_with (first | (go_at_call 135; refine (sml_c r _ hr).mono ?_; rw [h1]; rintro e w1 ⟨rfl, rfl⟩) | (go_at_call 116; refine (dig_c r _ hr).mono ?_; rw [h2]; rintro e w1 ⟨rfl, rfl⟩))
                    go_ret
                    exact ⟨by rw [fin]; rfl, hbw2⟩
                · have RL := HG.out.1 (by simp [h2, hz])
                  clear HG
                  go_wp2_with (first | (go_at_call 135; refine (sml_c r _ hr).mono ?_; rw [h1]; rintro e w1 ⟨rfl, rfl⟩) | (go_at_call 116; refine (dig_c r _ hr).mono ?_; rw [h2]; rintro e w1 ⟨rfl, rfl⟩))
                  go_roundw
                  case rel => (try ((repeat apply Exists.intro); refine ⟨?_, rfl⟩)); exact ⟨pos + 1, hit2, by omega, RL, hbw2⟩
                  case measure => exact hme
            · have RL := HG.out.1 (by simp [h1])
              clear HG
              go_wp2_with (go_at_call 135; refine (sml_c r _ hr).mono ?_; rw [h1]; rintro e w1 ⟨rfl, rfl⟩)
              go_roundw
              case rel => (try ((repeat apply Exists.intro); refine ⟨?_, rfl⟩)); exact ⟨pos + 1, hit2, by omega, RL, hbw2⟩
              case measure => exact hme
          · have fin : nameB s.data.toList = false := nameB_not pos hpl (by rw [data_get s pos hp hpl]; exact nmc_high _ _ (by omega))
            have hnx : ∀ ty, (Instr.next (.pointer (some ⟨w.heap.size, 0, none⟩)) true ty).run Tryz.prog wr = _ := fun ty => Lib.run_next_any_at wr w.heap.size s pos ty hit hp
            have hbw2 := Lib.below_iterAt hbw (k := w.heap.size) (by omega) s (pos + (Utf8.decode s pos).2)
            have hr := decode_le s pos
            have hr2 := (decode_high s pos hp (by omega)).1
            generalize wr.iterAt w.heap.size s (pos + (Utf8.decode s pos).2) = w2 at *
            generalize (Utf8.decode s pos).1 = r at *
            have h1 : sml r = false := by simp [sml]; omega
            have h2 : dig r = false := by simp [dig]; omega
            have h3' : ¬ (r : Int) = 95 := by omega
            have h3b : ((r : Int) != 95) = true := by simpa using h3'
            clear hit hbw hin ha
            by_cases hz : pos = 0
            · subst hz
              go_wp2_with (go_at_call 135; refine (sml_c r _ hr).mono ?_; rw [h1]; rintro e w1 ⟨rfl, rfl⟩)
              go_ret
              exact ⟨by rw [fin]; rfl, hbw2⟩
            · have hz' : ¬ (pos : Int) = 0 := by omega
              go_wp2_with (first | (go_at_call 135; refine (sml_c r _ hr).mono ?_; rw [h1]; rintro e w1 ⟨rfl, rfl⟩) | (go_at_call 116; refine (dig_c r _ hr).mono ?_; rw [h2]; rintro e w1 ⟨rfl, rfl⟩))
              go_ret
              exact ⟨by rw [fin]; rfl, hbw2⟩
        · have hnx : ∀ ty, (Instr.next (.pointer (some ⟨w.heap.size, 0, none⟩)) true ty).run Tryz.prog wr = _ := fun ty => Lib.run_next_end_at wr w.heap.size s pos ty hit hp
          have hW2 := hW.below hbw
          have fin : nameB s.data.toList = !wordB s.data.toList := by
            have hl := HL.out
            cases hw : wordB s.data.toList
            · exact (nameB_iff _).2 ⟨by omega, by omega, fun j h => hin j h (by omega), hw⟩
            · show _ = false
              rw [← Bool.not_eq_true, nameB_iff]
              rintro ⟨_, _, _, h⟩
              rw [hw] at h
              cases h
          clear hin hit
          go_wp2_with (go_at_call 118; refine (word_c s _ hW2 hs').mono ?_; rintro e w1 ⟨rfl, rfl⟩)
          go_ret
          exact ⟨by rw [fin]; rfl, hbw⟩
end Go.Proofs.YtafnlhnenmpfoaaGreatDoor
namespace Go.Proofs.YtafnlhnenmpfoaaGreatDoor
open Go.ChangeShapes Go.WideShapes Go.ChangeAt Go.RowKit
set_option linter.unusedVariables false

/-- A token's cells. -/
abbrev tka (x : Tk) : Array Value := #[.int .i64 (x.k : Nat), .int .i64 x.n, .string ⟨x.t.toArray⟩, .int .i64 (x.a : Nat)]
/-- What token answers. -/
def outT : Sum Nat Tk → Value
  | .inl e => .tuple #[.agg #[.int .i64 0, .int .i64 0, .string ⟨#[]⟩, .int .i64 0], .int .i64 (e : Nat)]
  | .inr x => .tuple #[.agg (tka x), .int .i64 0]
theorem back_text (t : ByteArray) : (⟨t.data.toList.toArray⟩ : ByteArray) = t := by cases t; simp
theorem tok_end {fn : Func} {p u : Tmp} (h : fn.results = #[.cell p 47, .tmp u]) (tmps : Array Value) (w : World) (g : Nat) (v0 v1 v2 v3 : Value) (t : TypeId) (fr : Nat × Nat)
    (hp : tmps.getD p undef = .pointer (some ⟨g, 0, none⟩)) (hg : w.heap[g]? = some (.cells #[v0, v1, v2, v3] t fr)) :
    (results fn tmps).run Tryz.prog w = .ok (.tuple #[.agg #[v0, v1, v2, v3], tmps.getD u undef]) w := by
  rw [results_cell_tmp h, hp]
  have := run_loadVar_row (P := Tryz.prog) w g t 47 #[v0, v1, v2, v3] fr _ hg Tryz.underlying47 rfl (by kernel_rfl)
  simp [asAddr, Result.andThen, this]
theorem set4 {w : World} {b : Nat} {a0 a1 a2 a3 : Value} {t : TypeId} (v0 v1 v2 v3 : Value) (h : w.heap[b]? = some (.cells #[a0, a1, a2, a3] t (0, 0))) :
    ((((w.setCell ⟨b, 0, none⟩ v0).setCell ⟨b, 1, none⟩ v1).setCell ⟨b, 2, none⟩ v2).setCell ⟨b, 3, none⟩ v3).heap[b]? = some (.cells #[v0, v1, v2, v3] t (0, 0)) := by
  have h0 := heap_setCell_same w b 0 _ t v0 h
  have h1 := heap_setCell_same _ b 1 _ t v1 h0
  have h2 := heap_setCell_same _ b 2 _ t v2 h1
  have h3 := heap_setCell_same _ b 3 _ t v3 h2
  simpa using h3
/-- The box of a piece and the room for a token, in a world that has grown since. -/
theorem two_boxes {w w1 : World} {A B : Obj} (h : Below ((w.alloc A).alloc B).heap.size ((w.alloc A).alloc B) w1) : w1.heap[w.heap.size]? = some A ∧ w1.heap[w.heap.size + 1]? = some B ∧ Below w.heap.size w w1 := by
  refine ⟨?_, ?_, ?_⟩
  · rw [h.block _ (by simp; omega), heap_alloc_old (h := by simp)]
    exact heap_alloc_new _ _
  · rw [h.block _ (by simp)]
    exact heap_alloc2_new _ _ _
  · exact (b1 _ _).trans (((b1 _ _).mono (by simp)).trans (h.mono (by simp; omega)))
theorem b2 (w : World) (A B : Obj) : Below w.heap.size w ((w.alloc A).alloc B) := (b1 _ _).trans ((b1 _ _).mono (by simp))
theorem bset4 {w w1 : World} {b : Nat} (v0 v1 v2 v3 : Value) (h : Below w.heap.size w w1) (hb : w.heap.size ≤ b) :
    Below w.heap.size w ((((w1.setCell ⟨b, 0, none⟩ v0).setCell ⟨b, 1, none⟩ v1).setCell ⟨b, 2, none⟩ v2).setCell ⟨b, 3, none⟩ v3) :=
  ((((h.setCell (p := ⟨b, 0, none⟩) hb v0).setCell (p := ⟨b, 1, none⟩) hb v1).setCell (p := ⟨b, 2, none⟩) hb v2).setCell (p := ⟨b, 3, none⟩) hb v3)

theorem sgn_tok (t : ByteArray) (k a : Nat) (w : World) (hs : t.size ≤ maxLen) :
    Calls Tryz.prog 78 #[pcv k t a] w fun e w' => e = .returned (outT (sgnT t.data.toList a)) ∧ Below w.heap.size w w' := by
  by_cases h1 : t = ⟨#[33]⟩
  · subst h1
    have fin : sgnT (⟨#[33]⟩ : ByteArray).data.toList a = .inl 110 := rfl
    rw [fin]
    clear fin
    go_enter Tryz.func78, Tryz.ntmps78
    go_wp2
    refine bodyPost_ret (tok_end rfl _ _ (w.heap.size + 1) _ _ _ _ _ _ rfl (heap_alloc2_new _ _ _)) rfl ?_
    exact ⟨rfl, b2 _ _ _⟩
  · have n1 : (t.toList == [33]) = false := beq_eq_false_iff_ne.2 (str_nel fun e => h1 (bytes_eq.1 e))
    have fin : sgnT t.data.toList a = .inr ⟨4, 0, t.data.toList, a⟩ := by
      unfold sgnT
      rw [if_neg (fun e => h1 (bytes_eq.1 e))]
    rw [fin]
    clear fin
    go_enter Tryz.func78, Tryz.ntmps78
    go_wp2
    refine bodyPost_ret (tok_end rfl _ _ (w.heap.size + 1) _ _ _ _ _ _ rfl (heap_alloc2_new _ _ _)) rfl ?_
    exact ⟨rfl, b2 _ _ _⟩
theorem wrd_tok (t : ByteArray) (k a : Nat) (w : World) (hW : Wd w) (hs : t.size ≤ maxLen) :
    Calls Tryz.prog 76 #[pcv k t a] w fun e w' => e = .returned (outT (wrdT t.data.toList a)) ∧ Below w.heap.size w w' := by
  have hW2 : ∀ A B : Obj, Wd ((w.alloc A).alloc B) := fun A B => hW.below (b2 _ _ _)
  unfold wrdT
  cases h1 : wordB t.data.toList
  · cases h2 : nameB t.data.toList
    all_goals
      simp only [Bool.false_eq_true, if_false, if_true]
      go_enter Tryz.func76, Tryz.ntmps76
      go_wp2_with (first | (go_at_call 118; refine (word_c t _ (hW2 _ _) hs).mono ?_; rw [h1]; rintro e w1 ⟨rfl, rfl⟩) | (go_at_call 119; refine (name_c t _ (hW2 _ _) hs).mono ?_; rw [h2]; rintro e w1 ⟨rfl, hb⟩; refine Hid.out ?_))
      refine Lib.hid ?_
      obtain ⟨k1, k2, B1⟩ := two_boxes hb
      have d0 : w1.cell? ⟨w.heap.size, 1, none⟩ = some (.string t) := by rw [cell_of_row _ _ _ _ _ _ k1]; rfl
      have d1 : w1.cell? ⟨w.heap.size, 2, none⟩ = some (.int .i64 (a : Nat)) := by rw [cell_of_row _ _ _ _ _ _ k1]; rfl
      have c0 : w1.cell? ⟨w.heap.size + 1, 0, none⟩ = some (.int .i64 0) := by rw [cell_of_row _ _ _ _ _ _ k2]; rfl
      have c1 : w1.cell? ⟨w.heap.size + 1, 1, none⟩ = some (.int .i64 0) := by rw [cell_of_row _ _ _ _ _ _ k2]; rfl
      have c2 : w1.cell? ⟨w.heap.size + 1, 2, none⟩ = some (.string ⟨#[]⟩) := by rw [cell_of_row _ _ _ _ _ _ k2]; rfl
      have c3 : w1.cell? ⟨w.heap.size + 1, 3, none⟩ = some (.int .i64 0) := by rw [cell_of_row _ _ _ _ _ _ k2]; rfl
      have fz : ∀ j, w1.frozen? ⟨w.heap.size + 1, j, none⟩ = false := fun j => frozen_of_row w1 _ j _ _ k2
      have HK2 := Lib.hid k2
      clear k1 k2 hb
      go_wp2
      refine bodyPost_ret (tok_end rfl _ _ (w.heap.size + 1) _ _ _ _ _ _ rfl (set4 _ _ _ _ HK2.out)) rfl ?_
      exact ⟨by rfl, bset4 _ _ _ _ B1 (by omega)⟩
  · simp only [if_true]
    go_enter Tryz.func76, Tryz.ntmps76
    go_wp2_with (go_at_call 118; refine (word_c t _ (hW2 _ _) hs).mono ?_; rw [h1]; rintro e w1 ⟨rfl, rfl⟩)
    refine bodyPost_ret (tok_end rfl _ _ (w.heap.size + 1) _ _ _ _ _ _ rfl (heap_alloc2_new _ _ _)) rfl ?_
    exact ⟨rfl, b2 _ _ _⟩
theorem head_at (t : ByteArray) (h : 0 < t.size) : t.data.toList.head? = some t[0] := by
  have hl : 0 < t.data.toList.length := by rw [data_len]; exact h
  rw [List.head?_eq_getElem?, List.getElem?_eq_getElem hl, data_get t 0 h hl]
theorem num_tok (t : ByteArray) (k a : Nat) (w : World) (hE : Ers w) (hs : t.size ≤ 281474976710656) :
    Calls Tryz.prog 77 #[pcv k t a] w fun e w' => e = .returned (outT (numT t.data.toList a)) ∧ Below w.heap.size w w' := by
  have hE2 : ∀ A B : Obj, Ers ((w.alloc A).alloc B) := fun A B => hE.below (b2 _ _ _)
  go_enter Tryz.func77, Tryz.ntmps77
  go_wp2_with (go_at_call 120; refine (atoi_c t _ hs (hE2 _ _)).mono ?_; rintro e w1 ⟨v, ev, rfl, ho, hb⟩; refine Hid.out ?_)
  refine Lib.hid ?_
  obtain ⟨k1, k2, B1⟩ := two_boxes hb
  have d0 : w1.cell? ⟨w.heap.size, 1, none⟩ = some (.string t) := by rw [cell_of_row _ _ _ _ _ _ k1]; rfl
  have d1 : w1.cell? ⟨w.heap.size, 2, none⟩ = some (.int .i64 (a : Nat)) := by rw [cell_of_row _ _ _ _ _ _ k1]; rfl
  have c0 : w1.cell? ⟨w.heap.size + 1, 0, none⟩ = some (.int .i64 0) := by rw [cell_of_row _ _ _ _ _ _ k2]; rfl
  have c1 : w1.cell? ⟨w.heap.size + 1, 1, none⟩ = some (.int .i64 0) := by rw [cell_of_row _ _ _ _ _ _ k2]; rfl
  have c2 : w1.cell? ⟨w.heap.size + 1, 2, none⟩ = some (.string ⟨#[]⟩) := by rw [cell_of_row _ _ _ _ _ _ k2]; rfl
  have c3 : w1.cell? ⟨w.heap.size + 1, 3, none⟩ = some (.int .i64 0) := by rw [cell_of_row _ _ _ _ _ _ k2]; rfl
  have fz : ∀ j, w1.frozen? ⟨w.heap.size + 1, j, none⟩ = false := fun j => frozen_of_row w1 _ j _ _ k2
  have HK2 := Lib.hid k2
  clear k1 k2 hb
  rcases ho with ⟨hv, rfl⟩ | ⟨hn, ty, N, rfl⟩
  · have hpos : 0 < t.size := by
      by_cases h0 : t.size = 0
      · exfalso
        have e0 : t = ⟨#[]⟩ := by
          apply ByteArray.ext
          exact Array.eq_empty_of_size_eq_zero h0
        subst e0
        cases hv
      · omega
    have hh := head_at t hpos
    by_cases ht : t = ⟨#[48]⟩
    · have fin : numT t.data.toList a = .inr ⟨1, v, [], a⟩ := by
        subst ht
        unfold numT
        rw [hv]
        simp
      subst ht
      have HF := Lib.hid fin
      clear hv hh fin
      go_wp2
      refine bodyPost_ret (tok_end rfl _ _ (w.heap.size + 1) _ _ _ _ _ _ rfl (set4 _ _ _ _ HK2.out)) rfl ?_
      exact ⟨by rw [HF.out]; rfl, bset4 _ _ _ _ B1 (by omega)⟩
    · have hnl : ¬ t.data.toList = [48] := fun e => ht (bytes_eq.1 e)
      have n1 : (t.toList == [48]) = false := beq_eq_false_iff_ne.2 (str_nel hnl)
      by_cases h48 : (t[0]'hpos).toNat = 48
      · have fin : numT t.data.toList a = .inl 111 := by
          unfold numT
          rw [hv]
          simp only
          have h5 : t[0]'hpos = 48 := UInt8.toNat.inj h48
          rw [if_pos ⟨by rw [hh, h5], hnl⟩]
        have HF := Lib.hid fin
        clear hv hh fin ht hnl
        go_wp2
        refine bodyPost_ret (tok_end rfl _ _ (w.heap.size + 1) _ _ _ _ _ _ rfl (set4 _ _ _ _ HK2.out)) rfl ?_
        exact ⟨by rw [HF.out]; rfl, bset4 _ _ _ _ B1 (by omega)⟩
      · have fin : numT t.data.toList a = .inr ⟨1, v, [], a⟩ := by
          unfold numT
          rw [hv]
          simp only
          rw [if_neg]
          rintro ⟨h, _⟩
          rw [hh] at h
          injection h with h
          rw [h] at h48
          exact h48 rfl
        have h48I : ¬ ((t[0]'hpos).toNat : Int) = 48 := by omega
        have HF := Lib.hid fin
        clear hv hh fin ht hnl h48
        go_wp2
        refine bodyPost_ret (tok_end rfl _ _ (w.heap.size + 1) _ _ _ _ _ _ rfl (set4 _ _ _ _ HK2.out)) rfl ?_
        exact ⟨by rw [HF.out]; rfl, bset4 _ _ _ _ B1 (by omega)⟩
  · have fin : numT t.data.toList a = .inl 111 := by
      unfold numT
      split
      · rename_i u hu
        exact absurd hu (hn u)
      · rfl
    have HF := Lib.hid fin
    clear hn fin
    go_wp2
    refine bodyPost_ret (tok_end rfl _ _ (w.heap.size + 1) _ _ _ _ _ _ rfl (set4 _ _ _ _ HK2.out)) rfl ?_
    exact ⟨by rw [HF.out]; rfl, bset4 _ _ _ _ B1 (by omega)⟩
theorem token_1 (t : ByteArray) (a : Nat) (w : World) (hW : Wd w) (hE : Ers w) (hs : t.size ≤ 2000) :
    Calls Tryz.prog 40 #[pcv 1 t a] w fun e w' => e = .returned (outT (ptok 1 t.data.toList a)) ∧ Below w.heap.size w w' := by
  have hW2 : ∀ A B : Obj, Wd ((w.alloc A).alloc B) := fun A B => hW.below (b2 _ _ _)
  have hE2 : ∀ A B : Obj, Ers ((w.alloc A).alloc B) := fun A B => hE.below (b2 _ _ _)
  have hm : t.size ≤ maxLen := by unfold maxLen; omega
  have hq : t.size ≤ 281474976710656 := by omega
  have fin : ptok 1 t.data.toList a = wrdT t.data.toList a := rfl
  rw [fin]
  clear fin
  go_enter Tryz.func40, Tryz.ntmps40
  go_wp2_with (go_at_call 76; refine (wrd_tok t _ a _ (hW2 _ _) hm).mono ?_; rintro e w1 ⟨rfl, hb⟩; refine Hid.out ?_)
  refine Lib.hid ?_
  obtain ⟨k1, k2, B1⟩ := two_boxes hb
  have c0 : w1.cell? ⟨w.heap.size + 1, 0, none⟩ = some (.int .i64 0) := by rw [cell_of_row _ _ _ _ _ _ k2]; rfl
  have c1 : w1.cell? ⟨w.heap.size + 1, 1, none⟩ = some (.int .i64 0) := by rw [cell_of_row _ _ _ _ _ _ k2]; rfl
  have c2 : w1.cell? ⟨w.heap.size + 1, 2, none⟩ = some (.string ⟨#[]⟩) := by rw [cell_of_row _ _ _ _ _ _ k2]; rfl
  have c3 : w1.cell? ⟨w.heap.size + 1, 3, none⟩ = some (.int .i64 0) := by rw [cell_of_row _ _ _ _ _ _ k2]; rfl
  have fz : ∀ j, w1.frozen? ⟨w.heap.size + 1, j, none⟩ = false := fun j => frozen_of_row w1 _ j _ _ k2
  have HK2 := Lib.hid k2
  clear k1 k2 hb
  obtain ⟨X, hX⟩ : ∃ X, X = wrdT t.data.toList a := ⟨_, rfl⟩
  rw [← hX]
  have HX := Lib.hid hX
  clear hX
  cases X with
  | inl er =>
    simp only [outT]
    go_wp2
    refine bodyPost_ret (tok_end rfl _ _ (w.heap.size + 1) _ _ _ _ _ _ rfl (set4 _ _ _ _ HK2.out)) rfl ?_
    exact ⟨by rw [← HX.out]; rfl, bset4 _ _ _ _ B1 (by omega)⟩
  | inr x =>
    obtain ⟨xk, xn, xt, xa⟩ := x
    simp only [outT, tka]
    go_wp2
    refine bodyPost_ret (tok_end rfl _ _ (w.heap.size + 1) _ _ _ _ _ _ rfl (set4 _ _ _ _ HK2.out)) rfl ?_
    exact ⟨by rw [← HX.out]; rfl, bset4 _ _ _ _ B1 (by omega)⟩
theorem token_2 (t : ByteArray) (a : Nat) (w : World) (hW : Wd w) (hE : Ers w) (hs : t.size ≤ 2000) :
    Calls Tryz.prog 40 #[pcv 2 t a] w fun e w' => e = .returned (outT (ptok 2 t.data.toList a)) ∧ Below w.heap.size w w' := by
  have hW2 : ∀ A B : Obj, Wd ((w.alloc A).alloc B) := fun A B => hW.below (b2 _ _ _)
  have hE2 : ∀ A B : Obj, Ers ((w.alloc A).alloc B) := fun A B => hE.below (b2 _ _ _)
  have hm : t.size ≤ maxLen := by unfold maxLen; omega
  have hq : t.size ≤ 281474976710656 := by omega
  have fin : ptok 2 t.data.toList a = numT t.data.toList a := rfl
  rw [fin]
  clear fin
  go_enter Tryz.func40, Tryz.ntmps40
  go_wp2_with (go_at_call 77; refine (num_tok t _ a _ (hE2 _ _) hq).mono ?_; rintro e w1 ⟨rfl, hb⟩; refine Hid.out ?_)
  refine Lib.hid ?_
  obtain ⟨k1, k2, B1⟩ := two_boxes hb
  have c0 : w1.cell? ⟨w.heap.size + 1, 0, none⟩ = some (.int .i64 0) := by rw [cell_of_row _ _ _ _ _ _ k2]; rfl
  have c1 : w1.cell? ⟨w.heap.size + 1, 1, none⟩ = some (.int .i64 0) := by rw [cell_of_row _ _ _ _ _ _ k2]; rfl
  have c2 : w1.cell? ⟨w.heap.size + 1, 2, none⟩ = some (.string ⟨#[]⟩) := by rw [cell_of_row _ _ _ _ _ _ k2]; rfl
  have c3 : w1.cell? ⟨w.heap.size + 1, 3, none⟩ = some (.int .i64 0) := by rw [cell_of_row _ _ _ _ _ _ k2]; rfl
  have fz : ∀ j, w1.frozen? ⟨w.heap.size + 1, j, none⟩ = false := fun j => frozen_of_row w1 _ j _ _ k2
  have HK2 := Lib.hid k2
  clear k1 k2 hb
  obtain ⟨X, hX⟩ : ∃ X, X = numT t.data.toList a := ⟨_, rfl⟩
  rw [← hX]
  have HX := Lib.hid hX
  clear hX
  cases X with
  | inl er =>
    simp only [outT]
    go_wp2
    refine bodyPost_ret (tok_end rfl _ _ (w.heap.size + 1) _ _ _ _ _ _ rfl (set4 _ _ _ _ HK2.out)) rfl ?_
    exact ⟨by rw [← HX.out]; rfl, bset4 _ _ _ _ B1 (by omega)⟩
  | inr x =>
    obtain ⟨xk, xn, xt, xa⟩ := x
    simp only [outT, tka]
    go_wp2
    refine bodyPost_ret (tok_end rfl _ _ (w.heap.size + 1) _ _ _ _ _ _ rfl (set4 _ _ _ _ HK2.out)) rfl ?_
    exact ⟨by rw [← HX.out]; rfl, bset4 _ _ _ _ B1 (by omega)⟩
theorem token_3 (t : ByteArray) (a : Nat) (w : World) (hW : Wd w) (hE : Ers w) (hs : t.size ≤ 2000) :
    Calls Tryz.prog 40 #[pcv 3 t a] w fun e w' => e = .returned (outT (ptok 3 t.data.toList a)) ∧ Below w.heap.size w w' := by
  have hW2 : ∀ A B : Obj, Wd ((w.alloc A).alloc B) := fun A B => hW.below (b2 _ _ _)
  have hE2 : ∀ A B : Obj, Ers ((w.alloc A).alloc B) := fun A B => hE.below (b2 _ _ _)
  have hm : t.size ≤ maxLen := by unfold maxLen; omega
  have hq : t.size ≤ 281474976710656 := by omega
  have fin : ptok 3 t.data.toList a = sgnT t.data.toList a := rfl
  rw [fin]
  clear fin
  go_enter Tryz.func40, Tryz.ntmps40
  go_wp2_with (go_at_call 78; refine (sgn_tok t _ a _ hm).mono ?_; rintro e w1 ⟨rfl, hb⟩; refine Hid.out ?_)
  refine Lib.hid ?_
  obtain ⟨k1, k2, B1⟩ := two_boxes hb
  have c0 : w1.cell? ⟨w.heap.size + 1, 0, none⟩ = some (.int .i64 0) := by rw [cell_of_row _ _ _ _ _ _ k2]; rfl
  have c1 : w1.cell? ⟨w.heap.size + 1, 1, none⟩ = some (.int .i64 0) := by rw [cell_of_row _ _ _ _ _ _ k2]; rfl
  have c2 : w1.cell? ⟨w.heap.size + 1, 2, none⟩ = some (.string ⟨#[]⟩) := by rw [cell_of_row _ _ _ _ _ _ k2]; rfl
  have c3 : w1.cell? ⟨w.heap.size + 1, 3, none⟩ = some (.int .i64 0) := by rw [cell_of_row _ _ _ _ _ _ k2]; rfl
  have fz : ∀ j, w1.frozen? ⟨w.heap.size + 1, j, none⟩ = false := fun j => frozen_of_row w1 _ j _ _ k2
  have HK2 := Lib.hid k2
  clear k1 k2 hb
  obtain ⟨X, hX⟩ : ∃ X, X = sgnT t.data.toList a := ⟨_, rfl⟩
  rw [← hX]
  have HX := Lib.hid hX
  clear hX
  cases X with
  | inl er =>
    simp only [outT]
    go_wp2
    refine bodyPost_ret (tok_end rfl _ _ (w.heap.size + 1) _ _ _ _ _ _ rfl (set4 _ _ _ _ HK2.out)) rfl ?_
    exact ⟨by rw [← HX.out]; rfl, bset4 _ _ _ _ B1 (by omega)⟩
  | inr x =>
    obtain ⟨xk, xn, xt, xa⟩ := x
    simp only [outT, tka]
    go_wp2
    refine bodyPost_ret (tok_end rfl _ _ (w.heap.size + 1) _ _ _ _ _ _ rfl (set4 _ _ _ _ HK2.out)) rfl ?_
    exact ⟨by rw [← HX.out]; rfl, bset4 _ _ _ _ B1 (by omega)⟩
theorem token_4 (t : ByteArray) (a : Nat) (w : World) :
    Calls Tryz.prog 40 #[pcv 4 t a] w fun e w' => e = .returned (outT (ptok 4 t.data.toList a)) ∧ Below w.heap.size w w' := by
  have fin : ptok 4 t.data.toList a = .inl 110 := rfl
  rw [fin]
  clear fin
  go_enter Tryz.func40, Tryz.ntmps40
  go_wp2
  refine bodyPost_ret (tok_end rfl _ _ (w.heap.size + 1) _ _ _ _ _ _ rfl (heap_alloc2_new _ _ _)) rfl ?_
  exact ⟨rfl, b2 _ _ _⟩
theorem token_c (k : Nat) (t : ByteArray) (a : Nat) (w : World) (hW : Wd w) (hE : Ers w) (hk : k ≤ 4) (h0 : 0 < k) (hs : t.size ≤ 2000) :
    Calls Tryz.prog 40 #[pcv k t a] w fun e w' => e = .returned (outT (ptok k t.data.toList a)) ∧ Below w.heap.size w w' := by
  match k, hk, h0 with
  | 1, _, _ => exact token_1 t a w hW hE hs
  | 2, _, _ => exact token_2 t a w hW hE hs
  | 3, _, _ => exact token_3 t a w hW hE hs
  | 4, _, _ => exact token_4 t a w
end Go.Proofs.YtafnlhnenmpfoaaGreatDoor
