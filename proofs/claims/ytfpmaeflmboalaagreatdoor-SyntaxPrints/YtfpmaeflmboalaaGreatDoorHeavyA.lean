/- Has a tree too many parts? Heavy of package isthmusref12. -/
import Derived.Test.YtfpmaeflmboalaaGreatDoorLexX
import Derived.Deep.CutBlock
import Derived.Deep.DeepCutAuto
import Derived.Test.YtfpmaeflmboalaaGreatDoorAccA
namespace Go.Proofs.YtfpmaeflmboalaaGreatDoor
open Go.ChangeShapes Go.WideShapes Go.ChangeAt Go.RowKit
set_option linter.unusedVariables false

/-- A great letter. -/
def grt (r : Nat) : Bool := decide (65 ≤ r) && decide (r ≤ 90)
theorem dig_r (r : Nat) (w : World) (hr : r < 256) :
    Calls Tryz.prog 49 #[.int .u8 (r : Nat)] w fun e w' => e = .returned (.bool (dig r)) ∧ w' = w := by
  by_cases h1 : 48 ≤ r
  · have g1 : (48 : Int) ≤ (r : Int) := by omega
    by_cases h2 : r ≤ 57
    · have g2 : (r : Int) ≤ 57 := by omega
      have e0 : dig r = true := by simp [dig, h1, h2]
      rw [e0]
      clear e0
      go_enter Tryz.func49, Tryz.ntmps49
      go_wp2
      go_ret
      exact ⟨rfl, rfl⟩
    · have g2 : ¬ (r : Int) ≤ 57 := by omega
      have g3 : decide ((r : Int) ≤ 57) = false := decide_eq_false g2
      have e0 : dig r = false := by simp [dig]; omega
      rw [e0]
      clear e0
      go_enter Tryz.func49, Tryz.ntmps49
      go_wp2
      go_ret
      exact ⟨rfl, rfl⟩
  · have g1 : ¬ (48 : Int) ≤ (r : Int) := by omega
    have e0 : dig r = false := by simp [dig]; omega
    rw [e0]
    clear e0
    go_enter Tryz.func49, Tryz.ntmps49
    go_wp2
    go_ret
    exact ⟨rfl, rfl⟩
theorem sml_r (r : Nat) (w : World) (hr : r < 256) :
    Calls Tryz.prog 52 #[.int .u8 (r : Nat)] w fun e w' => e = .returned (.bool (sml r)) ∧ w' = w := by
  by_cases h1 : 97 ≤ r
  · have g1 : (97 : Int) ≤ (r : Int) := by omega
    by_cases h2 : r ≤ 122
    · have g2 : (r : Int) ≤ 122 := by omega
      have e0 : sml r = true := by simp [sml, h1, h2]
      rw [e0]
      clear e0
      go_enter Tryz.func52, Tryz.ntmps52
      go_wp2
      go_ret
      exact ⟨rfl, rfl⟩
    · have g2 : ¬ (r : Int) ≤ 122 := by omega
      have g3 : decide ((r : Int) ≤ 122) = false := decide_eq_false g2
      have e0 : sml r = false := by simp [sml]; omega
      rw [e0]
      clear e0
      go_enter Tryz.func52, Tryz.ntmps52
      go_wp2
      go_ret
      exact ⟨rfl, rfl⟩
  · have g1 : ¬ (97 : Int) ≤ (r : Int) := by omega
    have e0 : sml r = false := by simp [sml]; omega
    rw [e0]
    clear e0
    go_enter Tryz.func52, Tryz.ntmps52
    go_wp2
    go_ret
    exact ⟨rfl, rfl⟩
theorem grt_r (r : Nat) (w : World) (hr : r < 256) :
    Calls Tryz.prog 53 #[.int .u8 (r : Nat)] w fun e w' => e = .returned (.bool (grt r)) ∧ w' = w := by
  by_cases h1 : 65 ≤ r
  · have g1 : (65 : Int) ≤ (r : Int) := by omega
    by_cases h2 : r ≤ 90
    · have g2 : (r : Int) ≤ 90 := by omega
      have e0 : grt r = true := by simp [grt, h1, h2]
      rw [e0]
      clear e0
      go_enter Tryz.func53, Tryz.ntmps53
      go_wp2
      go_ret
      exact ⟨rfl, rfl⟩
    · have g2 : ¬ (r : Int) ≤ 90 := by omega
      have g3 : decide ((r : Int) ≤ 90) = false := decide_eq_false g2
      have e0 : grt r = false := by simp [grt]; omega
      rw [e0]
      clear e0
      go_enter Tryz.func53, Tryz.ntmps53
      go_wp2
      go_ret
      exact ⟨rfl, rfl⟩
  · have g1 : ¬ (65 : Int) ≤ (r : Int) := by omega
    have e0 : grt r = false := by simp [grt]; omega
    rw [e0]
    clear e0
    go_enter Tryz.func53, Tryz.ntmps53
    go_wp2
    go_ret
    exact ⟨rfl, rfl⟩
theorem blk_r (r : Nat) (w : World) (hr : r < 256) :
    Calls Tryz.prog 24 #[.int .u8 (r : Nat)] w fun e w' => e = .returned (.bool (blk r)) ∧ w' = w := by
  by_cases h0 : r = 32
  · subst h0
    have e0 : blk 32 = true := by rfl
    rw [e0]
    clear e0
    go_enter Tryz.func24, Tryz.ntmps24
    go_wp2
    go_ret
    exact ⟨rfl, rfl⟩
  by_cases h1 : r = 9
  · subst h1
    clear h0
    have e0 : blk 9 = true := by rfl
    rw [e0]
    clear e0
    go_enter Tryz.func24, Tryz.ntmps24
    go_wp2
    go_ret
    exact ⟨rfl, rfl⟩
  by_cases h2 : r = 10
  · subst h2
    clear h0
    clear h1
    have e0 : blk 10 = true := by rfl
    rw [e0]
    clear e0
    go_enter Tryz.func24, Tryz.ntmps24
    go_wp2
    go_ret
    exact ⟨rfl, rfl⟩
  by_cases h3 : r = 13
  · subst h3
    clear h0
    clear h1
    clear h2
    have e0 : blk 13 = true := by rfl
    rw [e0]
    clear e0
    go_enter Tryz.func24, Tryz.ntmps24
    go_wp2
    go_ret
    exact ⟨rfl, rfl⟩
  have e0 : blk r = false := by simp [blk]; omega
  have g0 : ¬ (r : Int) = 32 := by omega
  have g1 : ¬ (r : Int) = 9 := by omega
  have g2 : ¬ (r : Int) = 10 := by omega
  have g3 : ¬ (r : Int) = 13 := by omega
  clear h0 h1 h2 h3
  rw [e0]
  clear e0
  go_enter Tryz.func24, Tryz.ntmps24
  go_wp2
  go_ret
  refine ⟨?_, rfl⟩
  simp [g0, g1, g2, g3]
abbrev wordsV : Array Value := #[.string ⟨#[97, 108, 108]⟩, .string ⟨#[97, 110, 100]⟩, .string ⟨#[97, 114, 111, 117, 110, 100]⟩, .string ⟨#[98, 108, 111, 99, 107]⟩, .string ⟨#[98, 111, 116, 116, 108, 101, 110, 101, 99, 107]⟩, .string ⟨#[99, 111, 110, 110, 101, 99, 116, 101, 100]⟩, .string ⟨#[99, 111, 117, 110, 116]⟩, .string ⟨#[100, 101, 103, 114, 101, 101]⟩, .string ⟨#[101, 108, 115, 101]⟩, .string ⟨#[102, 97, 108, 115, 101]⟩, .string ⟨#[105, 102]⟩, .string ⟨#[105, 110]⟩, .string ⟨#[108, 101, 97, 115, 116]⟩, .string ⟨#[109, 97, 120]⟩, .string ⟨#[109, 105, 110]⟩, .string ⟨#[109, 111, 115, 116]⟩, .string ⟨#[110, 111, 116]⟩, .string ⟨#[111, 114]⟩, .string ⟨#[114, 101, 112]⟩, .string ⟨#[115, 105, 122, 101]⟩, .string ⟨#[115, 111, 109, 101]⟩, .string ⟨#[115, 117, 109]⟩, .string ⟨#[116, 104, 101, 110]⟩, .string ⟨#[116, 111, 116, 97, 108]⟩, .string ⟨#[116, 114, 117, 101]⟩, .string ⟨#[118, 97, 108, 117, 101]⟩, .string ⟨#[118, 101, 114, 116, 105, 99, 101, 115]⟩]
theorem wordsV_at (k : Nat) (hk : k < 27) : wordsV[k]? = some (.string (wd k)) := by
  match k, hk with
  | 0, _ => rfl
  | 1, _ => rfl
  | 2, _ => rfl
  | 3, _ => rfl
  | 4, _ => rfl
  | 5, _ => rfl
  | 6, _ => rfl
  | 7, _ => rfl
  | 8, _ => rfl
  | 9, _ => rfl
  | 10, _ => rfl
  | 11, _ => rfl
  | 12, _ => rfl
  | 13, _ => rfl
  | 14, _ => rfl
  | 15, _ => rfl
  | 16, _ => rfl
  | 17, _ => rfl
  | 18, _ => rfl
  | 19, _ => rfl
  | 20, _ => rfl
  | 21, _ => rfl
  | 22, _ => rfl
  | 23, _ => rfl
  | 24, _ => rfl
  | 25, _ => rfl
  | 26, _ => rfl
  | n + 27, h => omega
set_option maxRecDepth 100000 in
theorem word_r (s : ByteArray) (w : World) (hs : s.size ≤ maxLen) :
    Calls Tryz.prog 54 #[.string s] w fun e w' => e = .returned (.bool (wordB s.data.toList)) ∧ Below w.heap.size w w' := by
  obtain ⟨w1, hw1⟩ : ∃ w1, w1 = w.alloc (.cells wordsV 9) := ⟨_, rfl⟩
  have hce : ∀ k, k < 27 → w1.cell? ⟨w.heap.size, k, none⟩ = some (.string (wd k)) := fun k hk => by
    rw [hw1, cell_of_row _ _ _ _ _ _ (heap_alloc_new w _), wordsV_at k hk]
  have hbe : Below w.heap.size w w1 := by rw [hw1]; exact b1 _ _
  have HW : Hid (w1 = w.alloc (.cells wordsV 9)) := hw1
  have HC := Lib.hid hce
  clear hw1 hce
  go_enter Tryz.func54, Tryz.ntmps54
  go_upto_region 2 with fail
  rw [show w.alloc _ = w1 from HW.out.symm]
  clear HW
  go_wp2_with fail
  go_loopw [4] (fun v wr => ∃ k : Nat, k ≤ 27 ∧ v = .int .i64 (k : Nat) ∧ (∀ j, j < k → s ≠ wd j) ∧ wr = w1) (fun v _ => 27 - (intOf v).toNat)
  case atStart => exact ⟨0, by omega, by go_num, fun j hj => by omega, rfl⟩
  case round =>
    obtain ⟨k, hk, rfl, hin, rfl⟩ := hrel
    by_cases hlt : k < 27
    · have ix := HC.out k hlt
      have hkI : (k : Int) < 27 := by omega
      by_cases he : s = wd k
      · have fin : wordB s.data.toList = true := wordB_yes k hlt (by rw [he]; rfl)
        rw [← he] at ix
        clear he HC hin
        go_wp2
        go_ret
        exact ⟨by rw [fin]; rfl, hbe⟩
      · have hin' : ∀ j, j < k + 1 → s ≠ wd j := fun j hj => by
          by_cases e : j = k
          · subst e; exact he
          · exact hin j (by omega)
        have heb : ((wd k).toList == s.toList) = false := str_ne (fun e => he e.symm)
        generalize wd k = t at ix he heb
        clear HC hin
        go_wp2
        go_roundw
        case rel => (try ((repeat apply Exists.intro); refine ⟨?_, rfl⟩)); exact ⟨k + 1, by omega, by go_num, hin', by trivial⟩
        case measure => simp [intOf]; omega
    · obtain rfl : k = 27 := by omega
      clear HC
      have fin : wordB s.data.toList = false := wordB_no fun j hj e => hin j hj (bytes_eq.1 (by rw [e]; rfl))
      go_wp2
      go_ret
      exact ⟨by rw [fin]; rfl, hbe⟩
set_option maxRecDepth 100000 in
set_option maxHeartbeats 2000000 in
theorem name_r (s : ByteArray) (w : World) (hs : s.size ≤ maxLen) :
    Calls Tryz.prog 55 #[.string s] w fun e w' => e = .returned (.bool (nameB s.data.toList)) ∧ Below w.heap.size w w' := by
  have hs' := hs
  unfold maxLen at hs
  have HL : Hid (s.data.toList.length = s.size) := data_len s
  by_cases h0 : s.size < 1
  · have fin : nameB s.data.toList = false := by rw [← Bool.not_eq_true, nameB_iff]; rintro ⟨h, _⟩; have := HL.out; omega
    rw [fin]
    clear fin
    have h0I : (s.size : Int) < 1 := by omega
    go_enter Tryz.func55, Tryz.ntmps55
    go_wp2
    go_ret
    exact ⟨rfl, b0 _⟩
  · have h0I : ¬ (s.size : Int) < 1 := by omega
    by_cases h12 : 12 < s.size
    · have fin : nameB s.data.toList = false := by rw [← Bool.not_eq_true, nameB_iff]; rintro ⟨_, h, _⟩; have := HL.out; omega
      rw [fin]
      clear fin
      have h12I : (12 : Int) < (s.size : Int) := by omega
      go_enter Tryz.func55, Tryz.ntmps55
      go_wp2
      go_ret
      exact ⟨rfl, b0 _⟩
    · have h12I : ¬ (12 : Int) < (s.size : Int) := by omega
      have hpos : 0 < s.size := by omega
      have hpl : 0 < s.data.toList.length := by have := HL.out; omega
      have hb0 : (s[0]'hpos).toNat < 256 := UInt8.toNat_lt _
      cases h1 : sml (s[0]'hpos).toNat
      · have fin : nameB s.data.toList = false := nameB_not 0 hpl (by rw [data_get s 0 hpos hpl]; simp [nmc, h1])
        rw [fin]
        clear fin
        go_enter Tryz.func55, Tryz.ntmps55
        go_wp2_with (go_at_call 52; refine (sml_r _ _ hb0).mono ?_; rw [h1]; rintro e w1 ⟨rfl, rfl⟩)
        go_ret
        exact ⟨rfl, b0 _⟩
      · have H0 : Hid (nmc 0 s[0] = true) := by show _ = _; simp [nmc, h1]
        go_enter Tryz.func55, Tryz.ntmps55
        go_wp2_with (go_at_call 52; refine (sml_r _ _ hb0).mono ?_; rw [h1]; rintro e w1 ⟨rfl, rfl⟩)
        go_loopw [3] (fun v wr => ∃ k : Nat, v = .int .i64 (k : Nat) ∧ k ≤ s.size ∧ (∀ j (h : j < s.data.toList.length), j < k → nmc j s.data.toList[j] = true) ∧ wr = w1) (fun v _ => s.size - (intOf v).toNat)
        case atStart => exact ⟨0, by go_num, by omega, fun j _ h => by omega, rfl⟩
        case round =>
          obtain ⟨k, rfl, hk, hin, rfl⟩ := hrel
          by_cases hlt : k < s.size
          · have hkl : k < s.data.toList.length := by have := HL.out; omega
            have hkI : (k : Int) < (s.size : Int) := by omega
            have hbk : (s[k]'hlt).toNat < 256 := UInt8.toNat_lt _
            have hex : nmc k s.data.toList[k] = nmc k s[k] := by rw [data_get s k hlt hkl]
            have hcase : nmc k s[k] = (sml (s[k]).toNat || dig (s[k]).toNat || (s[k]).toNat == 95) := by
              by_cases hk0 : k = 0
              · subst hk0
                rw [H0.out, h1]
                rfl
              · have hb : (k != 0) = true := by simpa using hk0
                simp [nmc, hb, Bool.or_assoc]
            have hgo : (sml (s[k]).toNat || dig (s[k]).toNat || (s[k]).toNat == 95) = true → ∀ j (h : j < s.data.toList.length), j < k + 1 → nmc j s.data.toList[j] = true := fun hx j h hj => by
              by_cases e : j = k
              · subst e; rw [hex, hcase]; exact hx
              · exact hin j h (by omega)
            have hno : (sml (s[k]).toNat || dig (s[k]).toNat || (s[k]).toNat == 95) = false → nameB s.data.toList = false := fun hx => nameB_not k hkl (by rw [hex, hcase]; exact hx)
            have HG : Hid (((sml (s[k]).toNat || dig (s[k]).toNat || (s[k]).toNat == 95) = true → ∀ j (h : j < s.data.toList.length), j < k + 1 → nmc j s.data.toList[j] = true) ∧ ((sml (s[k]).toNat || dig (s[k]).toNat || (s[k]).toNat == 95) = false → nameB s.data.toList = false)) := ⟨hgo, hno⟩
            clear hex hcase hgo hno hin
            cases h2 : sml (s[k]'hlt).toNat
            · cases h3 : dig (s[k]'hlt).toNat
              · by_cases h4 : (s[k]'hlt).toNat = 95
                · have RL := HG.out.1 (by simp [h4])
                  have H4 := Lib.hid h4
                  clear HG h4
                  go_wp2_with (first | (go_at_call 52; refine (sml_r _ _ hbk).mono ?_; rw [h2]; rintro e w1 ⟨rfl, rfl⟩) | (go_at_call 49; refine (dig_r _ _ hbk).mono ?_; rw [h3]; rintro e w1 ⟨rfl, rfl⟩; have h4 := H4.out; clear h2 h3 hbk))
                  go_roundw
                  case rel => (try ((repeat apply Exists.intro); refine ⟨?_, rfl⟩)); exact ⟨k + 1, by go_num, by omega, RL, by trivial⟩
                  case measure => simp [intOf]; omega
                · have fin : nameB s.data.toList = false := HG.out.2 (by simp [h2, h3, h4])
                  have h4I : ¬ ((s[k]'hlt).toNat : Int) = 95 := by omega
                  have h4b : (((s[k]'hlt).toNat : Int) == 95) = false := by simpa using h4I
                  clear HG h4
                  go_wp2_with (first | (go_at_call 52; refine (sml_r _ _ hbk).mono ?_; rw [h2]; rintro e w1 ⟨rfl, rfl⟩) | (go_at_call 49; refine (dig_r _ _ hbk).mono ?_; rw [h3]; rintro e w1 ⟨rfl, rfl⟩))
                  go_ret
                  exact ⟨by rw [fin]; rfl, b0 _⟩
              · have RL := HG.out.1 (by simp [h3])
                clear HG
                go_wp2_with (first | (go_at_call 52; refine (sml_r _ _ hbk).mono ?_; rw [h2]; rintro e w1 ⟨rfl, rfl⟩) | (go_at_call 49; refine (dig_r _ _ hbk).mono ?_; rw [h3]; rintro e w1 ⟨rfl, rfl⟩))
                go_roundw
                case rel => (try ((repeat apply Exists.intro); refine ⟨?_, rfl⟩)); exact ⟨k + 1, by go_num, by omega, RL, by trivial⟩
                case measure => simp [intOf]; omega
            · have RL := HG.out.1 (by simp [h2])
              clear HG
              go_wp2_with (go_at_call 52; refine (sml_r _ _ hbk).mono ?_; rw [h2]; rintro e w1 ⟨rfl, rfl⟩)
              go_roundw
              case rel => (try ((repeat apply Exists.intro); refine ⟨?_, rfl⟩)); exact ⟨k + 1, by go_num, by omega, RL, by trivial⟩
              case measure => simp [intOf]; omega
          · obtain rfl : k = s.size := by omega
            have fin : nameB s.data.toList = !wordB s.data.toList := by
              have hl := HL.out
              cases hw : wordB s.data.toList
              · exact (nameB_iff _).2 ⟨by omega, by omega, fun j h => hin j h (by omega), hw⟩
              · show _ = false
                rw [← Bool.not_eq_true, nameB_iff]
                rintro ⟨_, _, _, h⟩
                rw [hw] at h
                cases h
            clear hin
            go_wp2_with (go_at_call 54; refine (word_r s _ hs').mono ?_; rintro e w1 ⟨rfl, hbx⟩)
            go_ret
            exact ⟨by rw [fin]; rfl, hbx⟩
end Go.Proofs.YtfpmaeflmboalaaGreatDoor
namespace Go.Proofs.YtfpmaeflmboalaaGreatDoor
open Go.ChangeShapes Go.WideShapes Go.ChangeAt Go.RowKit
set_option linter.unusedVariables false
set_option linter.unusedSimpArgs false

/-- A count down by parts. -/
def wgF : Fs → Int → Int
  | ⟨none⟩, l => l
  | ⟨some ⟨_, _, _, _, ks, r⟩⟩, l => if l < 0 then l else wgF r (wgF ks (l - 1))
theorem wgF_cons (k n : Int) (nm : List UInt8) (a : Int) (ks r : Fs) (l : Int) : wgF (.cons k n nm a ks r) l = if l < 0 then l else wgF r (wgF ks (l - 1)) := rfl
theorem wgF_neg : ∀ (f : Fs) (l : Int), l < 0 → wgF f l = l
  | ⟨none⟩, l, h => rfl
  | ⟨some ⟨k, n, nm, a, ks, r⟩⟩, l, h => by simp only [wgF, h, if_true]
theorem wgF_size : ∀ (f : Fs) (l : Int), 0 ≤ wgF f l → wgF f l = l - (f.size : Nat)
  | ⟨none⟩, l, h => by show l = l - ((0 : Nat) : Int); omega
  | ⟨some ⟨k, n, nm, a, ks, r⟩⟩, l, h => by
    have e : wgF ⟨some ⟨k, n, nm, a, ks, r⟩⟩ l = if l < 0 then l else wgF r (wgF ks (l - 1)) := rfl
    rw [e] at h ⊢
    split at h
    · omega
    · rename_i hl
      rw [if_neg hl]
      have h1 := wgF_size r _ h
      by_cases h2 : wgF ks (l - 1) < 0
      · rw [wgF_neg r _ h2] at h
        omega
      · have h3 := wgF_size ks (l - 1) (by omega)
        show _ = l - ((ks.size + r.size + 1 : Nat) : Int)
        omega
theorem wgF_le : ∀ (f : Fs) (l : Int), -1 ≤ l → -1 ≤ wgF f l ∧ wgF f l ≤ l
  | ⟨none⟩, l, h => ⟨h, Int.le_refl _⟩
  | ⟨some ⟨k, n, nm, a, ks, r⟩⟩, l, h => by
    have e : wgF ⟨some ⟨k, n, nm, a, ks, r⟩⟩ l = if l < 0 then l else wgF r (wgF ks (l - 1)) := rfl
    rw [e]
    split
    · exact ⟨h, Int.le_refl _⟩
    · have h1 := wgF_le ks (l - 1) (by omega)
      have h2 := wgF_le r _ h1.1
      exact ⟨h2.1, by omega⟩
def heavyB (e : Ex) : Bool := decide (wgF e.kids 19999 < 0)
theorem light {e : Ex} (h : heavyB e = false) : e.kids.size ≤ 19999 := by
  have h1 : ¬ wgF e.kids 19999 < 0 := by simpa [heavyB] using h
  have := wgF_size e.kids 19999 (by omega)
  omega
/-- Lists are no longer than a slice may be. -/
def Fs.wide : Fs → Prop
  | ⟨none⟩ => True
  | ⟨some ⟨_, _, _, _, ks, r⟩⟩ => ks.len ≤ maxLen ∧ ks.wide ∧ r.wide
theorem Fs.app_wide : ∀ {x y : Fs}, (x.app y).wide → y.wide
  | ⟨none⟩, y, h => h
  | ⟨some ⟨k, n, nm, a, ks, r⟩⟩, y, h => Fs.app_wide (x := r) h.2.2
def WeighOk (N : Nat) : Prop := ∀ (e : Ex) (ao : Option Addr) (cap : Nat) (l : Int) (w : World), e.kids.size < N → e.kids.len ≤ maxLen → e.kids.wide → 0 ≤ l → l ≤ 1000000 → SlA w e.kids ao →
  Calls Tryz.prog 21 #[exV e ao cap, .int .i64 l] w fun x w' => x = .returned (.int .i64 (wgF e.kids (l - 1))) ∧ Below w.heap.size w w'
set_option maxRecDepth 100000 in
set_option maxHeartbeats 1000000 in
theorem weigh_step {N : Nat} (IH : WeighOk N) : WeighOk (N + 1) := by
  intro e ao cap l w hN hlen hwd hl0 hl1 S
  obtain ⟨W, hW⟩ : ∃ W, W = wgF e.kids (l - 1) := ⟨_, rfl⟩
  rw [← hW]
  have HW : Hid (W = wgF e.kids (l - 1)) := hW
  have hml : Hid (maxLen = 9223372036854775807) := rfl
  have hlm : e.kids.len ≤ 9223372036854775807 := by have := hml.out; omega
  clear hW
  have B0 : Below w.heap.size w (w.alloc (.cells #[.int .i64 e.k, .int .i64 e.n, stv e.nm, .slice ao e.kids.len cap, .int .i64 e.a] 25)) := (Below.refl _ w).alloc (Nat.le_refl _) _
  have E0 : (w.alloc (.cells #[.int .i64 e.k, .int .i64 e.n, stv e.nm, .slice ao e.kids.len cap, .int .i64 e.a] 25)).heap[w.heap.size]? = some (.cells #[.int .i64 e.k, .int .i64 e.n, stv e.nm, .slice ao e.kids.len cap, .int .i64 e.a] 25) := heap_alloc_new w _
  rw [exV_out]
  go_enter Tryz.func21, Tryz.ntmps21
  go_upto_region 1 with fail
  generalize w.alloc (.cells #[.int .i64 e.k, .int .i64 e.n, stv e.nm, .slice ao e.kids.len cap, .int .i64 e.a] 25) = w0 at *
  obtain ⟨bx, hbx⟩ : ∃ bx, bx = w.heap.size := ⟨_, rfl⟩
  rw [← hbx] at E0 B0 ⊢
  have HB : Hid (bx = w.heap.size) := hbx
  clear hbx
  go_wp2
  go_loopw [1, 5] (fun v1 v5 wr => ∃ (done r : Fs) (c : Int), Hid (e.kids = done.app r) ∧ v1 = .int .i64 c ∧ v5 = .int .i64 (done.len : Nat) ∧ -1 ≤ c ∧ c ≤ 1000000 ∧ Hid (wgF r c = W) ∧ wr.heap[bx]? = some (.cells #[.int .i64 e.k, .int .i64 e.n, stv e.nm, .slice ao e.kids.len cap, .int .i64 e.a] 25) ∧ Below bx w wr) (fun _ v5 _ => e.kids.len - (intOf v5).toNat)
  case atStart => exact ⟨.nil, e.kids, l - 1, rfl, rfl, by show _ = Value.int .i64 ((0 : Nat) : Int); rfl, by omega, by omega, HW.out.symm, E0, B0⟩
  case round =>
    clear E0 B0 HW
    obtain ⟨done, r, c, hk, rfl, rfl, hc0, hc1, HA, E1, B1⟩ := hrel
    have hlk : e.kids.len = done.len + r.len := by rw [hk.out, Fs.len_app]
    obtain ⟨p0, p1, p2, p3, p4, pf⟩ := box5 E1
    cases r using Fs.on with
    | nil =>
      have hlt : ¬ (done.len : Int) < (e.kids.len : Int) := by simp only [Fs.len] at hlk; omega
      have FIN : Hid (W = c) := HA.out.symm
      clear HA hlk
      go_wp2
      go_ret
      rw [FIN.out]
      exact ⟨rfl, by rw [← HB.out]; exact B1⟩
    | cons kk kn km ka kks kr =>
      have hlt : (done.len : Int) < (e.kids.len : Int) := by simp only [Fs.len] at hlk; omega
      have hl3 : done.len < e.kids.len := by omega
      by_cases hc : c < 0
      · have hcI : ¬ (0 : Int) ≤ c := by omega
        have FIN : Hid (W = c) := by show W = c; rw [← HA.out]; exact wgF_neg _ _ hc
        clear HA hlk
        go_wp2
        go_ret
        rw [FIN.out]
        exact ⟨rfl, by rw [← HB.out]; exact B1⟩
      · have hcI : (0 : Int) ≤ c := by omega
        have hsz : e.kids.size = done.size + (kks.size + kr.size + 1) := by rw [hk.out, Fs.size_app]; rfl
        have hwk : (Fs.cons kk kn km ka kks kr).wide := Fs.app_wide (x := done) (by rw [← hk.out]; exact hwd)
        obtain ⟨b, off, ak, ck, hao, lb1, -, x0, x1, x2, x3, x4, SK⟩ := Sl.kidQ (by rw [← hk.out]; exact SlA.below S (by rw [← HB.out]; exact B1))
        subst hao
        have hcc := IH ⟨kk, kn, km, ka, kks⟩ ak ck c wr (by show kks.size < N; omega) hwk.1 hwk.2.1 hcI (by omega) SK
        rw [exV_out] at hcc
        simp only at hcc
        have hbd := wgF_le kks (c - 1) (by omega)
        have HA2 : Hid (wgF kr (wgF kks (c - 1)) = W) := by show _ = W; rw [← HA.out, wgF_cons, if_neg hc]
        have hk2 : Hid (e.kids = (done.snoc ⟨kk, kn, km, ka, kks⟩).app kr) := by show e.kids = _; rw [hk.out]; unfold Fs.snoc; rw [Fs.app_assoc]; rfl
        have hl2 : (done.len : Int) + 1 = ((done.snoc ⟨kk, kn, km, ka, kks⟩).len : Nat) := by rw [Fs.len_snoc]; rfl
        generalize wgF kks (c - 1) = c2 at *
        clear HA hlk hsz hwk SK hk
        go_wp2_with fail
        refine hcc.mono ?_
        rintro x w2 ⟨rfl, b2⟩
        have B2 := B1.trans (b2.mono (by have := lt_of_block E1; omega))
        have E2 := (b2.block bx (lt_of_block E1)).trans E1
        clear hcc x0 x1 x2 x3 x4 p0 p1 p2 p3 p4 pf b2 E1 B1
        go_wp2
        go_roundw
        case rel => exact ⟨_, kr, c2, hk2, rfl, by rw [← hl2], hbd.1, by omega, HA2, E2, B2⟩
        case measure => simp [intOf]; omega
theorem weigh_ok : ∀ N, WeighOk N
  | 0 => fun e ao cap l w h => absurd h (Nat.not_lt_zero _)
  | N + 1 => weigh_step (weigh_ok N)
set_option maxRecDepth 100000 in
theorem heavy_r (e : Ex) (ao : Option Addr) (cap : Nat) (w : World) (hlen : e.kids.len ≤ maxLen) (hwd : e.kids.wide) (S : SlA w e.kids ao) :
    Calls Tryz.prog 10 #[exV e ao cap] w fun x w' => x = .returned (.bool (heavyB e)) ∧ Below w.heap.size w w' := by
  have B0 : Below w.heap.size w (w.alloc (.cells #[.int .i64 e.k, .int .i64 e.n, stv e.nm, .slice ao e.kids.len cap, .int .i64 e.a] 25)) := (Below.refl _ w).alloc (Nat.le_refl _) _
  have hs0 := B0.size
  have c1 := weigh_ok (e.kids.size + 1) e ao cap 20000 _ (by omega) hlen hwd (by omega) (by omega) (SlA.below S B0)
  rw [exV_out] at c1 ⊢
  have e1 : (20000 : Int) - 1 = 19999 := rfl
  rw [e1] at c1
  unfold heavyB
  generalize wgF e.kids 19999 = r at *
  go_enter Tryz.func10, Tryz.ntmps10
  go_wp2_with fail
  refine c1.mono ?_
  rintro x w1 ⟨rfl, b1⟩
  have B1 := B0.trans (b1.mono hs0)
  clear c1 b1 B0 hs0 e1
  go_wp2
  go_ret
  exact ⟨rfl, B1⟩
end Go.Proofs.YtfpmaeflmboalaaGreatDoor
