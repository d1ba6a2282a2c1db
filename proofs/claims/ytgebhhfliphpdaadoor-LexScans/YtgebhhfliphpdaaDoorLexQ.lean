/- isthmusref11: where a word or a number ends; what digits say. -/
import Derived.Test.YtgebhhfliphpdaaDoorLexR
import Derived.Test.YtgebhhfliphpdaaDoorLexD
import Derived.Test.YtgebhhfliphpdaaDoorLexH
namespace Go.Proofs.YtgebhhfliphpdaaDoor
open Go.ChangeShapes Go.WideShapes Go.ChangeAt Go.RowKit
set_option linter.unusedVariables false

/-- The end of a piece. -/
def EndAt (l : List UInt8) (k at0 e : Nat) : Prop := at0 < e ∧ e ≤ l.length ∧ (∀ j (h : j < l.length), at0 ≤ j → j < e → tks k [] (l[j]).toNat = true) ∧ (∀ h : e < l.length, tks k [] (l[e]).toNat = false)
theorem ends_2 (s : ByteArray) (at0 : Nat) (w : World) (hat : at0 < s.size) (hs : s.size ≤ 2000) (hd : dig (s[at0]).toNat = true) :
    Calls Tryd.prog 27 #[.string s, .int .i64 (at0 : Nat)] w fun e w' => ∃ e0 : Nat, e = .returned (.int .i64 (e0 : Nat)) ∧ EndAt s.data.toList 2 at0 e0 ∧ w' = w := by
  have HL : Hid (s.data.toList.length = s.size) := data_len s
  have hb0 : (s[at0]'hat).toNat < 256 := UInt8.toNat_lt _
  have hatI : (at0 : Int) < (s.size : Int) := by omega
  have HD := Lib.hid hd
  go_enter Tryd.func27, Tryd.ntmps27
  go_wp2_with (go_at_call 25; refine (dig_r _ _ hb0).mono ?_; rw [hd]; rintro e w1 ⟨rfl, rfl⟩)
  clear hd
  go_loopw [1] (fun v wr => ∃ k : Nat, v = .int .i64 (k : Nat) ∧ at0 ≤ k ∧ k ≤ s.size ∧ (∀ j (h : j < s.data.toList.length), at0 ≤ j → j < k → dig (s.data.toList[j]).toNat = true) ∧ wr = w1) (fun v _ => s.size - (intOf v).toNat)
  case atStart => exact ⟨at0, by go_num, by omega, by omega, fun j _ h1 h2 => by omega, rfl⟩
  case round =>
    obtain ⟨k, rfl, h1, h2, hin, rfl⟩ := hrel
    by_cases hlt : k < s.size
    · have hkl : k < s.data.toList.length := by have := HL.out; omega
      have hkI : (k : Int) < (s.size : Int) := by omega
      have hbk : (s[k]'hlt).toNat < 256 := UInt8.toNat_lt _
      have hge := data_get s k hlt hkl
      cases h3 : dig (s[k]'hlt).toNat
      · have fin : EndAt s.data.toList 2 at0 k := by
          refine ⟨?_, by omega, hin, fun h => ?_⟩
          · by_cases e : at0 = k
            · subst e
              rw [HD.out] at h3
              cases h3
            · omega
          · show dig _ = false
            rw [hge]
            exact h3
        have HF := Lib.hid fin
        clear fin hin hge
        go_wp2_with (go_at_call 25; refine (dig_r _ _ hbk).mono ?_; rw [h3]; rintro e w1 ⟨rfl, rfl⟩)
        go_ret
        exact ⟨k, rfl, HF.out, rfl⟩
      · have RL : ∀ j (h : j < s.data.toList.length), at0 ≤ j → j < k + 1 → dig (s.data.toList[j]).toNat = true := fun j h h4 h5 => by
          by_cases e : j = k
          · subst e; rw [hge]; exact h3
          · exact hin j h h4 (by omega)
        clear hin hge
        go_wp2_with (go_at_call 25; refine (dig_r _ _ hbk).mono ?_; rw [h3]; rintro e w1 ⟨rfl, rfl⟩)
        go_roundw
        case rel => (try ((repeat apply Exists.intro); refine ⟨?_, rfl⟩)); exact ⟨k + 1, by go_num, by omega, by omega, RL, by trivial⟩
        case measure => simp [intOf]; omega
    · have hkI : ¬ (k : Int) < (s.size : Int) := by omega
      have HF : Hid (EndAt s.data.toList 2 at0 k) := ⟨by omega, by have := HL.out; omega, hin, fun h => by have := HL.out; omega⟩
      clear hin
      go_wp2
      go_ret
      exact ⟨k, rfl, HF.out, rfl⟩
theorem ltr_grt (r : Nat) : ltr r = (sml r || grt r) := rfl
set_option maxHeartbeats 1000000 in
theorem ends_1 (s : ByteArray) (at0 : Nat) (w : World) (hat : at0 < s.size) (hs : s.size ≤ 2000) (hd : dig (s[at0]).toNat = false) (hl : ltr (s[at0]).toNat = true) :
    Calls Tryd.prog 27 #[.string s, .int .i64 (at0 : Nat)] w fun e w' => ∃ e0 : Nat, e = .returned (.int .i64 (e0 : Nat)) ∧ EndAt s.data.toList 1 at0 e0 ∧ w' = w := by
  have HL : Hid (s.data.toList.length = s.size) := data_len s
  have hb0 : (s[at0]'hat).toNat < 256 := UInt8.toNat_lt _
  have hatI : (at0 : Int) < (s.size : Int) := by omega
  have HD := Lib.hid hl
  go_enter Tryd.func27, Tryd.ntmps27
  go_wp2_with (go_at_call 25; refine (dig_r _ _ hb0).mono ?_; rw [hd]; rintro e w1 ⟨rfl, rfl⟩)
  clear hd hl
  go_loopw [1] (fun v wr => ∃ k : Nat, v = .int .i64 (k : Nat) ∧ at0 ≤ k ∧ k ≤ s.size ∧ (∀ j (h : j < s.data.toList.length), at0 ≤ j → j < k → tks 1 [] (s.data.toList[j]).toNat = true) ∧ wr = w1) (fun v _ => s.size - (intOf v).toNat)
  case atStart => exact ⟨at0, by go_num, by omega, by omega, fun j _ h1 h2 => by omega, rfl⟩
  case round =>
    obtain ⟨k, rfl, h1, h2, hin, rfl⟩ := hrel
    by_cases hlt : k < s.size
    · have hkl : k < s.data.toList.length := by have := HL.out; omega
      have hkI : (k : Int) < (s.size : Int) := by omega
      have hbk : (s[k]'hlt).toNat < 256 := UInt8.toNat_lt _
      have hge := data_get s k hlt hkl
      have HG : Hid (tks 1 [] (s[k]'hlt).toNat = true → ∀ j (h : j < s.data.toList.length), at0 ≤ j → j < k + 1 → tks 1 [] (s.data.toList[j]).toNat = true) := fun h3 j h h4 h5 => by
        by_cases e : j = k
        · subst e; rw [hge]; exact h3
        · exact hin j h h4 (by omega)
      have HE : Hid (tks 1 [] (s[k]'hlt).toNat = false → EndAt s.data.toList 1 at0 k) := fun h3 => by
        refine ⟨?_, by omega, hin, fun h => ?_⟩
        · by_cases e : at0 = k
          · subst e
            have h4 := HD.out
            simp [tks, h4] at h3
          · omega
        · rw [hge]
          exact h3
      clear hin hge
      cases h3 : sml (s[k]'hlt).toNat
      · cases h4 : grt (s[k]'hlt).toNat
        · cases h5 : dig (s[k]'hlt).toNat
          · by_cases h6 : (s[k]'hlt).toNat = 95
            · have RL := HG.out (by simp [tks, h6])
              have H6 := Lib.hid h6
              clear HG HE h6
              go_wp2_with (first | (go_at_call 24; refine (sml_r _ _ hbk).mono ?_; rw [h3]; rintro e w1 ⟨rfl, rfl⟩) | (go_at_call 29; refine (grt_r _ _ hbk).mono ?_; rw [h4]; rintro e w1 ⟨rfl, rfl⟩) | (go_at_call 25; refine (dig_r _ _ hbk).mono ?_; rw [h5]; rintro e w1 ⟨rfl, rfl⟩; have h6 := H6.out; clear h3 h4 h5 hbk))
              go_roundw
              case rel => (try ((repeat apply Exists.intro); refine ⟨?_, rfl⟩)); exact ⟨k + 1, by go_num, by omega, by omega, RL, by trivial⟩
              case measure => simp [intOf]; omega
            · have fin := HE.out (by simp [tks, ltr_grt, h3, h4, h5, h6])
              have HF := Lib.hid fin
              have h6I : ¬ ((s[k]'hlt).toNat : Int) = 95 := by omega
              have h6B : (((s[k]'hlt).toNat : Int) == 95) = false := by simpa using h6I
              clear HG HE h6 fin
              go_wp2_with (first | (go_at_call 24; refine (sml_r _ _ hbk).mono ?_; rw [h3]; rintro e w1 ⟨rfl, rfl⟩) | (go_at_call 29; refine (grt_r _ _ hbk).mono ?_; rw [h4]; rintro e w1 ⟨rfl, rfl⟩) | (go_at_call 25; refine (dig_r _ _ hbk).mono ?_; rw [h5]; rintro e w1 ⟨rfl, rfl⟩))
              go_ret
              exact ⟨k, rfl, HF.out, rfl⟩
          · have RL := HG.out (by simp [tks, h5])
            clear HG HE
            go_wp2_with (first | (go_at_call 24; refine (sml_r _ _ hbk).mono ?_; rw [h3]; rintro e w1 ⟨rfl, rfl⟩) | (go_at_call 29; refine (grt_r _ _ hbk).mono ?_; rw [h4]; rintro e w1 ⟨rfl, rfl⟩) | (go_at_call 25; refine (dig_r _ _ hbk).mono ?_; rw [h5]; rintro e w1 ⟨rfl, rfl⟩))
            go_roundw
            case rel => (try ((repeat apply Exists.intro); refine ⟨?_, rfl⟩)); exact ⟨k + 1, by go_num, by omega, by omega, RL, by trivial⟩
            case measure => simp [intOf]; omega
        · have RL := HG.out (by simp [tks, ltr_grt, h4])
          clear HG HE
          go_wp2_with (first | (go_at_call 24; refine (sml_r _ _ hbk).mono ?_; rw [h3]; rintro e w1 ⟨rfl, rfl⟩) | (go_at_call 29; refine (grt_r _ _ hbk).mono ?_; rw [h4]; rintro e w1 ⟨rfl, rfl⟩))
          go_roundw
          case rel => (try ((repeat apply Exists.intro); refine ⟨?_, rfl⟩)); exact ⟨k + 1, by go_num, by omega, by omega, RL, by trivial⟩
          case measure => simp [intOf]; omega
      · have RL := HG.out (by simp [tks, ltr_grt, h3])
        clear HG HE
        go_wp2_with (go_at_call 24; refine (sml_r _ _ hbk).mono ?_; rw [h3]; rintro e w1 ⟨rfl, rfl⟩)
        go_roundw
        case rel => (try ((repeat apply Exists.intro); refine ⟨?_, rfl⟩)); exact ⟨k + 1, by go_num, by omega, by omega, RL, by trivial⟩
        case measure => simp [intOf]; omega
    · have hkI : ¬ (k : Int) < (s.size : Int) := by omega
      have HF : Hid (EndAt s.data.toList 1 at0 k) := ⟨by omega, by have := HL.out; omega, hin, fun h => by have := HL.out; omega⟩
      clear hin
      go_wp2
      go_ret
      exact ⟨k, rfl, HF.out, rfl⟩
end Go.Proofs.YtgebhhfliphpdaaDoor
