/- Pieces read as the document reads them: to their end; digits as numbers; signs. No program. -/
import Derived.Test.YtafnlhnenmpfoaaGreatDoorRdqR
import Derived.Deep.CutBlock
import Derived.Deep.DeepCutAuto
namespace Go.Proofs.YtafnlhnenmpfoaaGreatDoor
open Go.ChangeShapes Go.WideShapes Go.ChangeAt Go.RowKit
set_option linter.unusedVariables false
set_option linter.unusedSimpArgs false

theorem part_row {n row o q : Nat} (hr : row = 1 ∨ row = 2 ∨ row = 4 ∨ row = 5 ∨ row = 6) : partF (n + 1) row o q = fun ts => (partF n (row + 1) o q ts).bind fun l t => chainL (partF n) n row o q l t := by
  funext ts
  rcases hr with rfl | rfl | rfl | rfl | rfl <;> rfl
theorem rec_all : ∀ n, n ≤ 1000000 → RecQ (partF n) ∧ AtmQ (partF n)
  | 0, _ => ⟨fun w rb all row o q st TI h1 h7 h hn => by
      match st, h, hn with
      | .inl (er, a), h, hn => exact row_bad _ h
      | .inr ts, h, hn => exact absurd rfl (hn ts rfl), fun w rb all o q x r TI h hn => absurd rfl (hn _ rfl)⟩
  | n + 1, hm => by
    obtain ⟨R, RA⟩ := rec_all n (by omega)
    refine ⟨fun w rb all row o q st TI h1 h7 h hn => ?_, fun w rb all o q x r TI h hn => ?_⟩
    · match st, h, hn with
      | .inl (er, a), h, hn => exact row_bad _ h
      | .inr [], h, hn => exact absurd rfl (h.nn [] rfl)
      | .inr (x :: r), h, hn =>
        by_cases h3 : row = 3
        · subst h3
          exact row_3 R TI h hn
        · by_cases h7' : row = 7
          · subst h7'
            exact row_7 R RA TI h hn
          · have hr : row = 1 ∨ row = 2 ∨ row = 4 ∨ row = 5 ∨ row = 6 := by omega
            rw [part_row hr] at hn ⊢
            exact row_c R hr TI h hn
    · exact atom_q R (set_q R (by omega)) TI h hn
end Go.Proofs.YtafnlhnenmpfoaaGreatDoor
namespace Go.Proofs.YtafnlhnenmpfoaaGreatDoor
set_option linter.unusedVariables false

/-- A token as a text gives it. -/
def TokW (x : Tk) : Prop := (x.k = 0 ∧ x.t = []) ∨ (x.k = 1 ∧ x.t = []) ∨ (x.k = 2 ∧ nameB x.t = true) ∨ (x.k = 3 ∧ wordB x.t = true) ∨ (x.k = 4 ∧ x.t ≠ [])
theorem ptok_w {k : Nat} {t : List UInt8} {a : Nat} {x : Tk} (h : ptok k t a = .inr x) (ht : t ≠ []) : TokW x := by
  unfold ptok at h
  split at h
  · unfold wrdT at h
    split at h
    · rename_i hw
      injection h with h
      subst h
      exact .inr (.inr (.inr (.inl ⟨rfl, hw⟩)))
    · split at h
      · rename_i hn
        injection h with h
        subst h
        exact .inr (.inr (.inl ⟨rfl, hn⟩))
      · cases h
  · unfold numT at h
    split at h
    · split at h
      · cases h
      · injection h with h
        subst h
        exact .inr (.inl ⟨rfl, rfl⟩)
    · cases h
  · unfold sgnT at h
    split at h
    · cases h
    · injection h with h
      subst h
      exact .inr (.inr (.inr (.inr ⟨rfl, ht⟩)))
  · cases h
theorem lex_w (k : Nat) (t : List UInt8) (a p : Nat) (l : List UInt8) (ts : List Tk) (h : lexL k t a p l = .inr ts) (ht : k = 0 ∨ t ≠ []) : ∀ x, x ∈ ts → TokW x := by
  induction l generalizing k t a p ts with
  | nil =>
    intro x hx
    unfold lexL at h
    rcases shut_inr h with ⟨_, h2⟩ | ⟨hk, y, us, hp, h2, rfl⟩
    · unfold endR at h2
      injection h2 with h2
      subst h2
      simp at hx
      subst hx
      exact .inl ⟨rfl, rfl⟩
    · unfold endR at h2
      injection h2 with h2
      subst h2
      simp at hx
      rcases hx with rfl | rfl
      · exact ptok_w hp (by rcases ht with h | h; exact absurd h hk; exact h)
      · exact .inl ⟨rfl, rfl⟩
  | cons c r ih =>
    unfold lexL at h
    split at h
    · exact ih _ _ _ _ _ h (by rcases ht with h | h; exact .inl h; exact .inr (by simp))
    · rcases shut_inr h with ⟨_, h2⟩ | ⟨hk, y, us, hp, h2, rfl⟩
      · exact ih _ _ _ _ _ h2 (.inr (by simp))
      · intro x hx
        rcases List.mem_cons.1 hx with rfl | hx
        · exact ptok_w hp (by rcases ht with h | h; exact absurd h hk; exact h)
        · exact ih _ _ _ _ _ h2 (.inr (by simp)) x hx
theorem scan_w {l : List UInt8} {ts : List Tk} (h : scanA l = .inr ts) : ∀ x, x ∈ ts → TokW x := lex_w _ _ _ _ _ _ (scan_ok h).2.1 (.inl rfl)
/-- A word or a sign is told by its text alone. -/
theorem TokW.is {x : Tk} (h : TokW x) {s : List UInt8} (hs : s ≠ []) (hn : nameB s = false) : ((x.k == 3 || x.k == 4) && x.t == s) = (x.t == s) := by
  by_cases e : x.t = s
  · have h2 : x.k = 3 ∨ x.k = 4 := by
      rcases h with ⟨_, h⟩ | ⟨_, h⟩ | ⟨_, h⟩ | ⟨h, _⟩ | ⟨h, _⟩
      · rw [h] at e; exact absurd e.symm hs
      · rw [h] at e; exact absurd e.symm hs
      · rw [e, hn] at h; cases h
      · exact .inl h
      · exact .inr h
    rcases h2 with h2 | h2 <;> simp [h2, e]
  · simp [e]
end Go.Proofs.YtafnlhnenmpfoaaGreatDoor
namespace Go.Proofs.YtafnlhnenmpfoaaGreatDoor
open Go.ChangeShapes Go.WideShapes Go.ChangeAt Go.RowKit
set_option linter.unusedVariables false

/-- A great letter. -/
def grt (r : Nat) : Bool := decide (65 ≤ r) && decide (r ≤ 90)
theorem dig_r (r : Nat) (w : World) (hr : r < 256) :
    Calls Tryz.prog 63 #[.int .u8 (r : Nat)] w fun e w' => e = .returned (.bool (dig r)) ∧ w' = w := by
  by_cases h1 : 48 ≤ r
  · have g1 : (48 : Int) ≤ (r : Int) := by omega
    by_cases h2 : r ≤ 57
    · have g2 : (r : Int) ≤ 57 := by omega
      have e0 : dig r = true := by simp [dig, h1, h2]
      rw [e0]
      clear e0
      go_enter Tryz.func63, Tryz.ntmps63
      go_wp2
      go_ret
      exact ⟨rfl, rfl⟩
    · have g2 : ¬ (r : Int) ≤ 57 := by omega
      have g3 : decide ((r : Int) ≤ 57) = false := decide_eq_false g2
      have e0 : dig r = false := by simp [dig]; omega
      rw [e0]
      clear e0
      go_enter Tryz.func63, Tryz.ntmps63
      go_wp2
      go_ret
      exact ⟨rfl, rfl⟩
  · have g1 : ¬ (48 : Int) ≤ (r : Int) := by omega
    have e0 : dig r = false := by simp [dig]; omega
    rw [e0]
    clear e0
    go_enter Tryz.func63, Tryz.ntmps63
    go_wp2
    go_ret
    exact ⟨rfl, rfl⟩
theorem sml_r (r : Nat) (w : World) (hr : r < 256) :
    Calls Tryz.prog 66 #[.int .u8 (r : Nat)] w fun e w' => e = .returned (.bool (sml r)) ∧ w' = w := by
  by_cases h1 : 97 ≤ r
  · have g1 : (97 : Int) ≤ (r : Int) := by omega
    by_cases h2 : r ≤ 122
    · have g2 : (r : Int) ≤ 122 := by omega
      have e0 : sml r = true := by simp [sml, h1, h2]
      rw [e0]
      clear e0
      go_enter Tryz.func66, Tryz.ntmps66
      go_wp2
      go_ret
      exact ⟨rfl, rfl⟩
    · have g2 : ¬ (r : Int) ≤ 122 := by omega
      have g3 : decide ((r : Int) ≤ 122) = false := decide_eq_false g2
      have e0 : sml r = false := by simp [sml]; omega
      rw [e0]
      clear e0
      go_enter Tryz.func66, Tryz.ntmps66
      go_wp2
      go_ret
      exact ⟨rfl, rfl⟩
  · have g1 : ¬ (97 : Int) ≤ (r : Int) := by omega
    have e0 : sml r = false := by simp [sml]; omega
    rw [e0]
    clear e0
    go_enter Tryz.func66, Tryz.ntmps66
    go_wp2
    go_ret
    exact ⟨rfl, rfl⟩
theorem grt_r (r : Nat) (w : World) (hr : r < 256) :
    Calls Tryz.prog 67 #[.int .u8 (r : Nat)] w fun e w' => e = .returned (.bool (grt r)) ∧ w' = w := by
  by_cases h1 : 65 ≤ r
  · have g1 : (65 : Int) ≤ (r : Int) := by omega
    by_cases h2 : r ≤ 90
    · have g2 : (r : Int) ≤ 90 := by omega
      have e0 : grt r = true := by simp [grt, h1, h2]
      rw [e0]
      clear e0
      go_enter Tryz.func67, Tryz.ntmps67
      go_wp2
      go_ret
      exact ⟨rfl, rfl⟩
    · have g2 : ¬ (r : Int) ≤ 90 := by omega
      have g3 : decide ((r : Int) ≤ 90) = false := decide_eq_false g2
      have e0 : grt r = false := by simp [grt]; omega
      rw [e0]
      clear e0
      go_enter Tryz.func67, Tryz.ntmps67
      go_wp2
      go_ret
      exact ⟨rfl, rfl⟩
  · have g1 : ¬ (65 : Int) ≤ (r : Int) := by omega
    have e0 : grt r = false := by simp [grt]; omega
    rw [e0]
    clear e0
    go_enter Tryz.func67, Tryz.ntmps67
    go_wp2
    go_ret
    exact ⟨rfl, rfl⟩
theorem blk_r (r : Nat) (w : World) (hr : r < 256) :
    Calls Tryz.prog 32 #[.int .u8 (r : Nat)] w fun e w' => e = .returned (.bool (blk r)) ∧ w' = w := by
  by_cases h0 : r = 32
  · subst h0
    have e0 : blk 32 = true := by rfl
    rw [e0]
    clear e0
    go_enter Tryz.func32, Tryz.ntmps32
    go_wp2
    go_ret
    exact ⟨rfl, rfl⟩
  by_cases h1 : r = 9
  · subst h1
    clear h0
    have e0 : blk 9 = true := by rfl
    rw [e0]
    clear e0
    go_enter Tryz.func32, Tryz.ntmps32
    go_wp2
    go_ret
    exact ⟨rfl, rfl⟩
  by_cases h2 : r = 10
  · subst h2
    clear h0
    clear h1
    have e0 : blk 10 = true := by rfl
    rw [e0]
    clear e0
    go_enter Tryz.func32, Tryz.ntmps32
    go_wp2
    go_ret
    exact ⟨rfl, rfl⟩
  by_cases h3 : r = 13
  · subst h3
    clear h0
    clear h1
    clear h2
    have e0 : blk 13 = true := by rfl
    rw [e0]
    clear e0
    go_enter Tryz.func32, Tryz.ntmps32
    go_wp2
    go_ret
    exact ⟨rfl, rfl⟩
  have e0 : blk r = false := by simp [blk]; omega
  have g0 : ¬ (r : Int) = 32 := by omega
  have g1 : ¬ (r : Int) = 9 := by omega
  have g2 : ¬ (r : Int) = 10 := by omega
  have g3 : ¬ (r : Int) = 13 := by omega
  clear h0 h1 h2 h3
  rw [e0]
  clear e0
  go_enter Tryz.func32, Tryz.ntmps32
  go_wp2
  go_ret
  refine ⟨?_, rfl⟩
  simp [g0, g1, g2, g3]
abbrev wordsV : Array Value := #[.string ⟨#[97, 108, 108]⟩, .string ⟨#[97, 110, 100]⟩, .string ⟨#[97, 114, 111, 117, 110, 100]⟩, .string ⟨#[98, 108, 111, 99, 107]⟩, .string ⟨#[98, 111, 116, 116, 108, 101, 110, 101, 99, 107]⟩, .string ⟨#[99, 111, 110, 110, 101, 99, 116, 101, 100]⟩, .string ⟨#[99, 111, 117, 110, 116]⟩, .string ⟨#[100, 101, 103, 114, 101, 101]⟩, .string ⟨#[101, 108, 115, 101]⟩, .string ⟨#[102, 97, 108, 115, 101]⟩, .string ⟨#[105, 102]⟩, .string ⟨#[105, 110]⟩, .string ⟨#[108, 101, 97, 115, 116]⟩, .string ⟨#[109, 97, 120]⟩, .string ⟨#[109, 105, 110]⟩, .string ⟨#[109, 111, 115, 116]⟩, .string ⟨#[110, 111, 116]⟩, .string ⟨#[111, 114]⟩, .string ⟨#[114, 101, 112]⟩, .string ⟨#[115, 105, 122, 101]⟩, .string ⟨#[115, 111, 109, 101]⟩, .string ⟨#[115, 117, 109]⟩, .string ⟨#[116, 104, 101, 110]⟩, .string ⟨#[116, 111, 116, 97, 108]⟩, .string ⟨#[116, 114, 117, 101]⟩, .string ⟨#[118, 97, 108, 117, 101]⟩, .string ⟨#[118, 101, 114, 116, 105, 99, 101, 115]⟩]
theorem wordsV_at (k : Nat) (hk : k < 27) : wordsV[k]? = some (.string (wd k)) := by
  match k, hk with
  | 0, _ => rfl
  | 1, _ => rfl
  | 2, _ => rfl
  | 3, _ => rfl
  | 4, _ => rfl
  | 5, _ => rfl
  | 6, _ => rfl
  | 7, _ => rfl
  | 8, _ => rfl
  | 9, _ => rfl
  | 10, _ => rfl
  | 11, _ => rfl
  | 12, _ => rfl
  | 13, _ => rfl
  | 14, _ => rfl
  | 15, _ => rfl
  | 16, _ => rfl
  | 17, _ => rfl
  | 18, _ => rfl
  | 19, _ => rfl
  | 20, _ => rfl
  | 21, _ => rfl
  | 22, _ => rfl
  | 23, _ => rfl
  | 24, _ => rfl
  | 25, _ => rfl
  | 26, _ => rfl
  | n + 27, h => omega
set_option maxRecDepth 100000 in
theorem word_r (s : ByteArray) (w : World) (hs : s.size ≤ maxLen) :
    Calls Tryz.prog 68 #[.string s] w fun e w' => e = .returned (.bool (wordB s.data.toList)) ∧ Below w.heap.size w w' := by
  obtain ⟨w1, hw1⟩ : ∃ w1, w1 = w.alloc (.cells wordsV 9) := ⟨_, rfl⟩
  have hce : ∀ k, k < 27 → w1.cell? ⟨w.heap.size, k, none⟩ = some (.string (wd k)) := fun k hk => by
    rw [hw1, cell_of_row _ _ _ _ _ _ (heap_alloc_new w _), wordsV_at k hk]
  have hbe : Below w.heap.size w w1 := by rw [hw1]; exact b1 _ _
  have HW : Hid (w1 = w.alloc (.cells wordsV 9)) := hw1
  have HC := Lib.hid hce
  clear hw1 hce
  go_enter Tryz.func68, Tryz.ntmps68
  go_upto_region 2 with fail
  rw [show w.alloc _ = w1 from HW.out.symm]
  clear HW
  go_wp2_with fail
  go_loopw [4] (fun v wr => ∃ k : Nat, k ≤ 27 ∧ v = .int .i64 (k : Nat) ∧ (∀ j, j < k → s ≠ wd j) ∧ wr = w1) (fun v _ => 27 - (intOf v).toNat)
  case atStart => exact ⟨0, by omega, by go_num, fun j hj => by omega, rfl⟩
  case round =>
    obtain ⟨k, hk, rfl, hin, rfl⟩ := hrel
    by_cases hlt : k < 27
    · have ix := HC.out k hlt
      have hkI : (k : Int) < 27 := by omega
      by_cases he : s = wd k
      · have fin : wordB s.data.toList = true := wordB_yes k hlt (by rw [he]; rfl)
        rw [← he] at ix
        clear he HC hin
        go_wp2
        go_ret
        exact ⟨by rw [fin]; rfl, hbe⟩
      · have hin' : ∀ j, j < k + 1 → s ≠ wd j := fun j hj => by
          by_cases e : j = k
          · subst e; exact he
          · exact hin j (by omega)
        have heb : ((wd k).toList == s.toList) = false := str_ne (fun e => he e.symm)
        generalize wd k = t at ix he heb
        clear HC hin
        go_wp2
        go_roundw
        case rel => (try ((repeat apply Exists.intro); refine ⟨?_, rfl⟩)); exact ⟨k + 1, by omega, by go_num, hin', by trivial⟩
        case measure => simp [intOf]; omega
    · obtain rfl : k = 27 := by omega
      clear HC
      have fin : wordB s.data.toList = false := wordB_no fun j hj e => hin j hj (bytes_eq.1 (by rw [e]; rfl))
      go_wp2
      go_ret
      exact ⟨by rw [fin]; rfl, hbe⟩
set_option maxRecDepth 100000 in
set_option maxHeartbeats 2000000 in
theorem name_r (s : ByteArray) (w : World) (hs : s.size ≤ maxLen) :
    Calls Tryz.prog 69 #[.string s] w fun e w' => e = .returned (.bool (nameB s.data.toList)) ∧ Below w.heap.size w w' := by
  have hs' := hs
  unfold maxLen at hs
  have HL : Hid (s.data.toList.length = s.size) := data_len s
  by_cases h0 : s.size < 1
  · have fin : nameB s.data.toList = false := by rw [← Bool.not_eq_true, nameB_iff]; rintro ⟨h, _⟩; have := HL.out; omega
    rw [fin]
    clear fin
    have h0I : (s.size : Int) < 1 := by omega
    go_enter Tryz.func69, Tryz.ntmps69
    go_wp2
    go_ret
    exact ⟨rfl, b0 _⟩
  · have h0I : ¬ (s.size : Int) < 1 := by omega
    by_cases h12 : 12 < s.size
    · have fin : nameB s.data.toList = false := by rw [← Bool.not_eq_true, nameB_iff]; rintro ⟨_, h, _⟩; have := HL.out; omega
      rw [fin]
      clear fin
      have h12I : (12 : Int) < (s.size : Int) := by omega
      go_enter Tryz.func69, Tryz.ntmps69
      go_wp2
      go_ret
      exact ⟨rfl, b0 _⟩
    · have h12I : ¬ (12 : Int) < (s.size : Int) := by omega
      have hpos : 0 < s.size := by omega
      have hpl : 0 < s.data.toList.length := by have := HL.out; omega
      have hb0 : (s[0]'hpos).toNat < 256 := UInt8.toNat_lt _
      cases h1 : sml (s[0]'hpos).toNat
      · have fin : nameB s.data.toList = false := nameB_not 0 hpl (by rw [data_get s 0 hpos hpl]; simp [nmc, h1])
        rw [fin]
        clear fin
        go_enter Tryz.func69, Tryz.ntmps69
        go_wp2_with (go_at_call 66; refine (sml_r _ _ hb0).mono ?_; rw [h1]; rintro e w1 ⟨rfl, rfl⟩)
        go_ret
        exact ⟨rfl, b0 _⟩
      · have H0 : Hid (nmc 0 s[0] = true) := by show _ = _; simp [nmc, h1]
        go_enter Tryz.func69, Tryz.ntmps69
        go_wp2_with (go_at_call 66; refine (sml_r _ _ hb0).mono ?_; rw [h1]; rintro e w1 ⟨rfl, rfl⟩)
        go_loopw [3] (fun v wr => ∃ k : Nat, v = .int .i64 (k : Nat) ∧ k ≤ s.size ∧ (∀ j (h : j < s.data.toList.length), j < k → nmc j s.data.toList[j] = true) ∧ wr = w1) (fun v _ => s.size - (intOf v).toNat)
        case atStart => exact ⟨0, by go_num, by omega, fun j _ h => by omega, rfl⟩
        case round =>
          obtain ⟨k, rfl, hk, hin, rfl⟩ := hrel
          by_cases hlt : k < s.size
          · have hkl : k < s.data.toList.length := by have := HL.out; omega
            have hkI : (k : Int) < (s.size : Int) := by omega
            have hbk : (s[k]'hlt).toNat < 256 := UInt8.toNat_lt _
            have hex : nmc k s.data.toList[k] = nmc k s[k] := by rw [data_get s k hlt hkl]
            have hcase : nmc k s[k] = (sml (s[k]).toNat || dig (s[k]).toNat || (s[k]).toNat == 95) := by
              by_cases hk0 : k = 0
              · subst hk0
                rw [H0.out, h1]
                rfl
              · have hb : (k != 0) = true := by simpa using hk0
                simp [nmc, hb, Bool.or_assoc]
            have hgo : (sml (s[k]).toNat || dig (s[k]).toNat || (s[k]).toNat == 95) = true → ∀ j (h : j < s.data.toList.length), j < k + 1 → nmc j s.data.toList[j] = true := fun hx j h hj => by
              by_cases e : j = k
              · subst e; rw [hex, hcase]; exact hx
              · exact hin j h (by omega)
            have hno : (sml (s[k]).toNat || dig (s[k]).toNat || (s[k]).toNat == 95) = false → nameB s.data.toList = false := fun hx => nameB_not k hkl (by rw [hex, hcase]; exact hx)
            have HG : Hid (((sml (s[k]).toNat || dig (s[k]).toNat || (s[k]).toNat == 95) = true → ∀ j (h : j < s.data.toList.length), j < k + 1 → nmc j s.data.toList[j] = true) ∧ ((sml (s[k]).toNat || dig (s[k]).toNat || (s[k]).toNat == 95) = false → nameB s.data.toList = false)) := ⟨hgo, hno⟩
            clear hex hcase hgo hno hin
            cases h2 : sml (s[k]'hlt).toNat
            · cases h3 : dig (s[k]'hlt).toNat
              · by_cases h4 : (s[k]'hlt).toNat = 95
                · have RL := HG.out.1 (by simp [h4])
                  have H4 := Lib.hid h4
                  clear HG h4
                  go_wp2_with (first | (go_at_call 66; refine (sml_r _ _ hbk).mono ?_; rw [h2]; rintro e w1 ⟨rfl, rfl⟩) | (go_at_call 63; refine (dig_r _ _ hbk).mono ?_; rw [h3]; rintro e w1 ⟨rfl, rfl⟩; have h4 := H4.out; clear h2 h3 hbk))
                  go_roundw
                  case rel => (try ((repeat apply Exists.intro); refine ⟨?_, rfl⟩)); exact ⟨k + 1, by go_num, by omega, RL, by trivial⟩
                  case measure => simp [intOf]; omega
                · have fin : nameB s.data.toList = false := HG.out.2 (by simp [h2, h3, h4])
                  have h4I : ¬ ((s[k]'hlt).toNat : Int) = 95 := by omega
                  have h4b : (((s[k]'hlt).toNat : Int) == 95) = false := by simpa using h4I
                  clear HG h4
                  go_wp2_with (first | (go_at_call 66; refine (sml_r _ _ hbk).mono ?_; rw [h2]; rintro e w1 ⟨rfl, rfl⟩) | (go_at_call 63; refine (dig_r _ _ hbk).mono ?_; rw [h3]; rintro e w1 ⟨rfl, rfl⟩))
                  go_ret
                  exact ⟨by rw [fin]; rfl, b0 _⟩
              · have RL := HG.out.1 (by simp [h3])
                clear HG
                go_wp2_with (first | (go_at_call 66; refine (sml_r _ _ hbk).mono ?_; rw [h2]; rintro e w1 ⟨rfl, rfl⟩) | (go_at_call 63; refine (dig_r _ _ hbk).mono ?_; rw [h3]; rintro e w1 ⟨rfl, rfl⟩))
                go_roundw
                case rel => (try ((repeat apply Exists.intro); refine ⟨?_, rfl⟩)); exact ⟨k + 1, by go_num, by omega, RL, by trivial⟩
                case measure => simp [intOf]; omega
            · have RL := HG.out.1 (by simp [h2])
              clear HG
              go_wp2_with (go_at_call 66; refine (sml_r _ _ hbk).mono ?_; rw [h2]; rintro e w1 ⟨rfl, rfl⟩)
              go_roundw
              case rel => (try ((repeat apply Exists.intro); refine ⟨?_, rfl⟩)); exact ⟨k + 1, by go_num, by omega, RL, by trivial⟩
              case measure => simp [intOf]; omega
          · obtain rfl : k = s.size := by omega
            have fin : nameB s.data.toList = !wordB s.data.toList := by
              have hl := HL.out
              cases hw : wordB s.data.toList
              · exact (nameB_iff _).2 ⟨by omega, by omega, fun j h => hin j h (by omega), hw⟩
              · show _ = false
                rw [← Bool.not_eq_true, nameB_iff]
                rintro ⟨_, _, _, h⟩
                rw [hw] at h
                cases h
            clear hin
            go_wp2_with (go_at_call 68; refine (word_r s _ hs').mono ?_; rintro e w1 ⟨rfl, hbx⟩)
            go_ret
            exact ⟨by rw [fin]; rfl, hbx⟩
end Go.Proofs.YtafnlhnenmpfoaaGreatDoor
namespace Go.Proofs.YtafnlhnenmpfoaaGreatDoor
open Go.ChangeShapes Go.WideShapes Go.ChangeAt Go.RowKit
set_option linter.unusedVariables false

theorem cut_list (s : ByteArray) (q : Nat) : (s.extract 0 q).data.toList = s.data.toList.take q := by
  rw [ext_list]
  simp
end Go.Proofs.YtafnlhnenmpfoaaGreatDoor
namespace Go.Proofs.YtafnlhnenmpfoaaGreatDoor
set_option linter.unusedVariables false

/-- A whole piece. -/
def Pce (k : Nat) (u : List UInt8) : Prop := k ≠ 0 ∧ ∃ c r, u = c :: r ∧ cls c.toNat = k ∧ ∀ j (h : j < r.length), tks k (c :: r.take j) (r[j]).toNat = true
theorem cls_blank {r : Nat} : cls r = 0 ↔ blk r = true := by
  unfold cls
  constructor
  · intro h
    by_cases hb : blk r = true
    · exact hb
    · rw [if_neg hb] at h
      repeat' split at h
      all_goals omega
  · intro h
    rw [if_pos h]
theorem Pce.one (c : UInt8) (h : cls c.toNat ≠ 0) : Pce (cls c.toNat) [c] := ⟨h, c, [], rfl, rfl, fun j h => by simp at h⟩
theorem Pce.more {k : Nat} {u : List UInt8} (h : Pce k u) (c : UInt8) (ht : tks k u c.toNat = true) : Pce k (u ++ [c]) := by
  obtain ⟨h0, d, r, rfl, h1, h2⟩ := h
  refine ⟨h0, d, r ++ [c], rfl, h1, fun j hj => ?_⟩
  by_cases e : j < r.length
  · rw [List.getElem_append_left e, List.take_append_of_le_length (by omega)]
    exact h2 j e
  · have e2 : j = r.length := by simp at hj; omega
    subst e2
    rw [List.getElem_append_right (by omega)]
    simp only [Nat.sub_self, List.getElem_singleton]
    rw [List.take_append_of_le_length (by omega), List.take_length]
    exact ht
theorem Pce.pos {k : Nat} {u : List UInt8} (h : Pce k u) : 0 < u.length := by
  obtain ⟨_, d, r, rfl, _⟩ := h
  simp
/-- Where a token stands: its piece, blanks, the next token's place. -/
def TokAt (L : List UInt8) (x y : Tk) : Prop := ∃ k u b r, Pce k u ∧ ptok k u x.a = .inr x ∧ L.drop x.a = u ++ (b ++ r) ∧ (∀ c, c ∈ b → blk c.toNat = true) ∧ y.a = x.a + u.length + b.length ∧ y.a ≤ L.length
def Chn (L : List UInt8) : List Tk → Prop
  | [] => True
  | x :: r => (match r with | [] => True | y :: _ => TokAt L x y) ∧ Chn L r
theorem Chn.at {L : List UInt8} {ts : List Tk} (h : Chn L ts) (i : Nat) (hi : i + 1 < ts.length) : TokAt L (ts[i]'(by omega)) ts[i + 1] := by
  induction ts generalizing i with
  | nil => simp at hi
  | cons x r ih =>
    obtain ⟨h1, h2⟩ := h
    cases i with
    | zero =>
      cases r with
      | nil => simp at hi
      | cons y r' => exact h1
    | succ i => exact ih h2 i (by simpa using hi)
end Go.Proofs.YtafnlhnenmpfoaaGreatDoor
namespace Go.Proofs.YtafnlhnenmpfoaaGreatDoor
open Go.ChangeShapes Go.WideShapes Go.ChangeAt Go.RowKit
set_option linter.unusedVariables false

theorem Tks.form {w : World} {v : Value} {ts : List Tk} (h : Tks w v ts) : ∃ ao cap, v = .slice ao ts.length cap := by
  obtain ⟨ao, cap, h, _⟩ := h
  exact ⟨ao, cap, h⟩
/-- What is read of one token of a slice that is spelled out. -/
theorem Tks.cells {w : World} {ao : Option Addr} {n cap : Nat} {ts : List Tk} (h : Tks w (.slice ao n cap) ts) (i : Nat) (hi : i < ts.length) : ∃ g, ao = some ⟨g, 0, none⟩ ∧
    w.cell? ⟨g, i * 4, none⟩ = some (.int .i64 ((ts[i]).k : Nat)) ∧ w.cell? ⟨g, i * 4 + 1, none⟩ = some (.int .i64 (ts[i]).n) ∧ w.cell? ⟨g, i * 4 + 2, none⟩ = some (.string ⟨(ts[i]).t.toArray⟩) ∧ w.cell? ⟨g, i * 4 + 3, none⟩ = some (.int .i64 ((ts[i]).a : Nat)) := by
  obtain ⟨g, c, e, p⟩ := h.at i hi
  injection e with e1 _ _
  exact ⟨g, e1, p⟩
theorem mk_size (l : List UInt8) : (⟨l.toArray⟩ : ByteArray).size = l.length := by show l.toArray.size = _; simp
end Go.Proofs.YtafnlhnenmpfoaaGreatDoor
namespace Go.Proofs.YtafnlhnenmpfoaaGreatDoor
set_option linter.unusedVariables false

/-- A piece is read whole, where what stands behind it does not lengthen it. -/
theorem Pce.reads {k : Nat} {u : List UInt8} (h : Pce k u) (q : Nat) (m : List UInt8) (hm : ∀ c r, m = c :: r → tks k u c.toNat = false) : lexL 0 [] q q (u ++ m) = shutP k u q (lexL 0 [] (q + u.length) (q + u.length) m) := by
  obtain ⟨h0, d, r, rfl, h1, h2⟩ := h
  have hb : blk d.toNat = false := by
    rw [← Bool.not_eq_true, ← cls_blank, h1]
    exact h0
  rw [List.cons_append, lexL_no (k := 0) (by exact hb), h1]
  show lexL k [d] q (q + 1) (r ++ m) = _
  rw [lexL_end k [d] q (q + 1) r m (fun j h => h2 j h) (fun c' r' e => hm c' r' e)]
  have e1 : q + 1 + r.length = q + (d :: r).length := by simp; omega
  rw [e1]
  rfl
/-- Words and numbers go on by their bytes alone. -/
theorem tks_plain {k : Nat} (h : k = 1 ∨ k = 2) (t t' : List UInt8) (c : Nat) : tks k t c = tks k t' c := by
  rcases h with rfl | rfl <;> rfl
theorem tks_sgn (t : List UInt8) (r : Nat) : tks 3 t r = (r == 61 && (t == [33] || t == [60])) := rfl
theorem seg_piece (l : List UInt8) (k at0 e : Nat) (hk : k = 1 ∨ k = 2) (h0 : at0 < e) (h1 : e ≤ l.length) (hc : cls (l[at0]'(by omega)).toNat = k) (hin : ∀ j (h : j < l.length), at0 ≤ j → j < e → tks k [] (l[j]).toNat = true) :
    Pce k ((l.drop at0).take (e - at0)) := by
  have e1 : e - at0 = (e - (at0 + 1)) + 1 := by omega
  refine ⟨by omega, l[at0]'(by omega), (l.drop (at0 + 1)).take (e - (at0 + 1)), ?_, hc, fun j hj => ?_⟩
  · rw [drop_at l at0 (by omega), e1, List.take_succ_cons]
  · rw [tks_plain hk _ []]
    have hj' : j < e - (at0 + 1) := by simp at hj; omega
    rw [List.getElem_take, List.getElem_drop]
    exact hin _ _ (by omega) (by omega)
theorem seg_len (l : List UInt8) (at0 e : Nat) (h0 : at0 < e) (h1 : e ≤ l.length) : ((l.drop at0).take (e - at0)).length = e - at0 := by
  simp
  omega
theorem seg_read (l : List UInt8) (k at0 e : Nat) (hk : k = 1 ∨ k = 2) (h0 : at0 < e) (h1 : e ≤ l.length) (hc : cls (l[at0]'(by omega)).toNat = k) (hin : ∀ j (h : j < l.length), at0 ≤ j → j < e → tks k [] (l[j]).toNat = true)
    (hend : ∀ h : e < l.length, tks k [] (l[e]).toNat = false) : lexL 0 [] at0 at0 (l.drop at0) = shutP k ((l.drop at0).take (e - at0)) at0 (lexL 0 [] e e (l.drop e)) := by
  have hP := seg_piece l k at0 e hk h0 h1 hc hin
  have hs : l.drop at0 = (l.drop at0).take (e - at0) ++ l.drop e := by
    have h2 := (List.take_append_drop (e - at0) (l.drop at0)).symm
    rw [List.drop_drop] at h2
    have e2 : at0 + (e - at0) = e := by omega
    rw [e2] at h2
    exact h2
  have hr := hP.reads at0 (l.drop e) (fun c r hcr => by
    have hlt : e < l.length := by
      by_cases hlt : e < l.length
      · exact hlt
      · rw [List.drop_eq_nil_of_le (by omega)] at hcr
        cases hcr
    rw [drop_at l e hlt] at hcr
    injection hcr with h2 h3
    rw [← h2, tks_plain hk _ []]
    exact hend hlt)
  rw [← hs] at hr
  rw [hr, seg_len l at0 e h0 h1]
  have e3 : at0 + (e - at0) = e := by omega
  rw [e3]
/-- What digits say. -/
def dstep (a : Nat) (c : UInt8) : Nat := a * 10 + (c.toNat - 48)
def dval (acc : Nat) (l : List UInt8) : Nat := l.foldl dstep acc
theorem dval_cons (acc : Nat) (c : UInt8) (r : List UInt8) : dval acc (c :: r) = dval (acc * 10 + (c.toNat - 48)) r := by
  unfold dval
  rw [List.foldl_cons]
  rfl
theorem dval_nil (acc : Nat) : dval acc [] = acc := by
  unfold dval
  rw [List.foldl_nil]
def Digs (l : List UInt8) : Prop := ∀ c, c ∈ l → 48 ≤ c.toNat ∧ c.toNat ≤ 57
theorem dval_ge (acc : Nat) (l : List UInt8) : acc * 10 ^ l.length ≤ dval acc l := by
  induction l generalizing acc with
  | nil =>
    rw [List.length_nil, Nat.pow_zero, Nat.mul_one, dval_nil]
    exact Nat.le_refl _
  | cons c r ih =>
    rw [dval_cons, List.length_cons]
    refine Nat.le_trans ?_ (ih _)
    rw [Nat.pow_succ, Nat.mul_comm (10 ^ r.length) 10, ← Nat.mul_assoc]
    exact Nat.mul_le_mul_right _ (by omega)
theorem dval_mono (acc : Nat) (l : List UInt8) : acc ≤ dval acc l := by
  induction l generalizing acc with
  | nil =>
    rw [dval_nil]
    exact Nat.le_refl _
  | cons c r ih =>
    rw [dval_cons]
    exact Nat.le_trans (by omega) (ih _)
theorem dval_append (acc : Nat) (l m : List UInt8) : dval acc (l ++ m) = dval (dval acc l) m := by
  unfold dval
  rw [List.foldl_append]
theorem parse_ok (acc : Nat) (l : List UInt8) (hl : Digs l) (h : dval acc l < 18446744073709551616) : Lib.parseUint10 acc l = .ok (dval acc l) := by
  induction l generalizing acc with
  | nil =>
    rw [dval_nil]
    rfl
  | cons c r ih =>
    have hc := hl c (by simp)
    rw [dval_cons] at h ⊢
    have hm := dval_mono (acc * 10 + (c.toNat - 48)) r
    simp only [Lib.parseUint10]
    rw [if_pos hc, if_neg (by omega), if_neg (by omega)]
    exact ih _ (fun d hd => hl d (by simp [hd])) h
theorem parse_val (acc : Nat) (l : List UInt8) (hl : Digs l) (u : Nat) (h : Lib.parseUint10 acc l = .ok u) : u = dval acc l := by
  induction l generalizing acc with
  | nil =>
    simp only [Lib.parseUint10] at h
    injection h with h
    rw [dval_nil]
    exact h.symm
  | cons c r ih =>
    have hc := hl c (by simp)
    rw [dval_cons]
    simp only [Lib.parseUint10] at h
    rw [if_pos hc] at h
    split at h
    · cases h
    · split at h
      · cases h
      · exact ih _ (fun d hd => hl d (by simp [hd])) h
theorem atoi_digs {l : List UInt8} (hl : Digs l) (h0 : l ≠ []) : (dval 0 l < 9223372036854775808 → Lib.atoiAll l = .ok (dval 0 l : Nat)) ∧ (9223372036854775808 ≤ dval 0 l → ∀ v, Lib.atoiAll l ≠ .ok v) := by
  cases l with
  | nil => exact absurd rfl h0
  | cons c r =>
    have hc := hl c (by simp)
    have hne : ¬ (c.toNat = 43 ∨ c.toNat = 45) := by omega
    have hm : Lib.parseMag (c :: r) = Lib.parseUint10 0 (c :: r) := by
      unfold Lib.parseMag
      rw [if_neg (by simp)]
    constructor
    · intro h
      have hp := parse_ok 0 (c :: r) hl (by omega)
      unfold Lib.atoiAll
      simp only
      rw [if_neg hne, hm, hp]
      simp only
      rw [if_neg (by omega), if_neg (by omega), if_neg (by omega)]
    · intro h v hv
      unfold Lib.atoiAll at hv
      simp only at hv
      rw [if_neg hne, hm] at hv
      cases hp : Lib.parseUint10 0 (c :: r) with
      | ok u =>
        rw [hp] at hv
        simp only at hv
        have hu := parse_val 0 (c :: r) hl u hp
        rw [if_pos (by omega)] at hv
        cases hv
      | _ => rw [hp] at hv; cases hv
theorem numT_no {l : List UInt8} (h : ∀ v, Lib.atoiAll l ≠ .ok v) (a : Nat) : numT l a = .inl 111 := by
  unfold numT
  split
  · rename_i v hv
    exact absurd hv (h v)
  · rfl
theorem numT_lead {l : List UInt8} (h1 : l.head? = some 48) (h2 : 1 < l.length) (a : Nat) : numT l a = .inl 111 := by
  unfold numT
  have hne : l ≠ [48] := fun e => by rw [e] at h2; simp at h2
  split
  · rw [if_pos ⟨h1, hne⟩]
  · rfl
theorem numT_yes {l : List UInt8} (hl : Digs l) (h0 : l ≠ []) (h1 : l.head? ≠ some 48 ∨ l.length ≤ 1) (h2 : dval 0 l < 9223372036854775808) (a : Nat) : numT l a = .inr ⟨1, (dval 0 l : Nat), [], a⟩ := by
  unfold numT
  rw [(atoi_digs hl h0).1 h2]
  simp only
  rw [if_neg]
  rintro ⟨h3, h4⟩
  rcases h1 with h1 | h1
  · exact h1 h3
  · apply h4
    cases l with
    | nil => exact absurd rfl h0
    | cons c r =>
      simp at h1 h3
      rw [h1, h3]
theorem numT_long {l : List UInt8} (hl : Digs l) (h : 19 < l.length) (a : Nat) : numT l a = .inl 111 := by
  cases l with
  | nil => simp at h
  | cons c r =>
    by_cases hc : c = 48
    · exact numT_lead (by rw [hc]; rfl) (by omega) a
    · refine numT_no ((atoi_digs hl (by simp)).2 ?_) a
      have h1 := hl c (by simp)
      have h2 : 1 ≤ c.toNat - 48 := by
        by_cases e : c.toNat = 48
        · exact absurd (UInt8.toNat.inj e) hc
        · omega
      have h3 := dval_ge (0 * 10 + (c.toNat - 48)) r
      rw [dval_cons]
      have h4 : 10 ^ 19 ≤ 10 ^ r.length := Nat.pow_le_pow_right (by omega) (by simp at h; omega)
      have h5 : 1 * 10 ^ r.length ≤ (0 * 10 + (c.toNat - 48)) * 10 ^ r.length := Nat.mul_le_mul_right _ (by omega)
      have h6 : (10 : Nat) ^ 19 = 10000000000000000000 := by decide
      omega
end Go.Proofs.YtafnlhnenmpfoaaGreatDoor
