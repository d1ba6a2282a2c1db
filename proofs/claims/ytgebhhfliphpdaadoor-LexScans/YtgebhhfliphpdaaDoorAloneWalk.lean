/- The law LexAlone, walked. -/
import Derived.Test.YtgebhhfliphpdaaDoorLexX
import Derived.Test.YtgebhhfliphpdaaDoorLexE
namespace Go.Proofs.YtgebhhfliphpdaaDoor
open Go.ChangeShapes Go.WideShapes Go.ChangeAt Go.RowKit
set_option linter.unusedVariables false

theorem app_list (s t : ByteArray) : (s ++ t).data.toList = s.data.toList ++ t.data.toList := by
  rw [ByteArray.data_append, Array.toList_append]
theorem app_size (s t : ByteArray) : (s ++ t).size = s.size + t.size := by simp
theorem cut_list (s : ByteArray) (q : Nat) : (s.extract 0 q).data.toList = s.data.toList.take q := by
  rw [ext_list]
  simp
theorem cut_size (s : ByteArray) (q : Nat) (h : q ≤ s.size) : (s.extract 0 q).size = q := by
  rw [← data_len, cut_list, List.length_take, data_len]
  omega
set_option maxRecDepth 100000 in
set_option maxHeartbeats 1000000 in
theorem alone_walk (s m : ByteArray) (w : World) (hs : s.size ≤ maxLen) (hm : m.size ≤ maxLen) (hW : Wd w) (hE : Ers w) :
    Calls Tryd.prog 6 #[.string s, .string m] w fun e w' => e = .returned (.bool true) ∧ Below w.heap.size w w' := by
  have HL : Hid (s.data.toList.length = s.size) := data_len s
  go_enter Tryd.func6, Tryd.ntmps6
  go_wp2_with fail
  refine (awake_c w hW hE).mono ?_
  rintro e w1 ⟨rfl, hb1⟩
  go_wp2_with fail
  refine (scan_c s w1 (hW.below hb1) (hE.below hb1) hs).mono ?_
  rintro e w2 ⟨v2, er2, at2, rfl, ho2, hb2⟩
  have B2 := hb1.trans (hb2.mono hb1.size)
  clear hb1 hb2
  cases hR : scanA s.data.toList with
  | inr ts =>
    obtain ⟨rfl, rfl, _⟩ := ho2.inr hR
    clear ho2 hR
    go_wp2
    go_ret
    exact ⟨rfl, B2⟩
  | inl eq =>
    obtain ⟨e, q⟩ := eq
    obtain ⟨rfl, rfl, rfl⟩ := ho2.inl hR
    by_cases h113 : e = 113
    · subst h113
      clear ho2 hR
      go_wp2
      go_ret
      exact ⟨rfl, B2⟩
    · obtain ⟨h1, h2, h3, h4⟩ := scan_err hR h113
      obtain ⟨us, h5⟩ := scan_ahead hR h113
      have hq : q < s.size := by rw [← HL.out]; exact h3
      have hs2 : s.size ≤ 2000 := by rw [← HL.out]; exact h1
      have HR := Lib.hid hR
      have H5 := Lib.hid h5
      have hqI : (q : Int) < (s.size : Int) := by omega
      have hqI2 : ¬ (s.size : Int) ≤ (q : Int) := by omega
      have hq0 : ¬ (q : Int) < 0 := by omega
      have hqs : (q : Int) ≤ (s.size : Int) := by omega
      clear ho2 hR h5 h1 h2 h3
      have hcl := Lib.hid (cut_list s q)
      have hcs := Lib.hid (cut_size s q (by omega))
      have W2 := hW.below B2
      have E2 := hE.below B2
      rcases h4 with rfl | rfl | rfl
      · go_wp2_with fail
        refine (scan_c (s.extract 0 q) w2 W2 E2 (by rw [hcs.out]; unfold maxLen; omega)).mono ?_
        rintro e w3 ⟨v3, er3, at3, rfl, ho3, hb3⟩
        rw [hcl.out] at ho3
        obtain ⟨rfl, rfl, _⟩ := ho3.inr H5.out
        have B3 := B2.trans (hb3.mono B2.size)
        have W3 := W2.below hb3
        have E3 := E2.below hb3
        clear ho3 hb3 W2 E2 B2
        have hb : (s[q]'hq).toNat < 256 := UInt8.toNat_lt _
        have hwm : IntKind.i64.wrap (2000 - (m.size : Int)) = 2000 - (m.size : Int) := by unfold maxLen at hm; rw [IntKind.wrap_i64]; omega
        by_cases hlen : s.size + m.size ≤ 2000
        · have hlI : ¬ 2000 - (m.size : Int) < (s.size : Int) := by omega
          have hlB : decide (2000 - (m.size : Int) < (s.size : Int)) = false := decide_eq_false hlI
          by_cases h33 : (s[q]'hq).toNat = 33
          · go_wp2
            go_ret
            exact ⟨rfl, B3⟩
          · have h33I : ¬ ((s[q]'hq).toNat : Int) = 33 := by omega
            have h33B : (((s[q]'hq).toNat : Int) == 33) = false := by simpa using h33I
            have hn : s.data.toList[q]? ≠ some 33 := by
              rw [List.getElem?_eq_getElem (by rw [HL.out]; exact hq), data_get s q hq]
              intro e
              injection e with e
              rw [e] at h33
              exact h33 rfl
            have HB := Lib.hid (scan_byte (m := m.data.toList) HR.out hn (by rw [data_len, data_len]; exact hlen))
            have hap := Lib.hid (app_list (s.extract 0 (q + 1)) m)
            have hcp := Lib.hid (cut_list s (q + 1))
            have hqp : (q : Int) + 1 ≤ (s.size : Int) := by omega
            clear hn
            go_wp2_with fail
            refine (scan_c (s.extract 0 (q + 1) ++ m) w3 W3 E3 (by have := cut_size s (q + 1) (by omega); rw [app_size, this]; unfold maxLen; omega)).mono ?_
            rintro e w4 ⟨v4, er4, at4, rfl, ho4, hb4⟩
            rw [hap.out, hcp.out] at ho4
            obtain ⟨rfl, rfl, rfl⟩ := ho4.inl HB.out
            have B4 := B3.trans (hb4.mono B3.size)
            clear ho4 hb4 B3 W3 E3
            go_wp2
            go_ret
            exact ⟨by simp, B4⟩
        · have hlI : 2000 - (m.size : Int) < (s.size : Int) := by omega
          have hlB : decide (2000 - (m.size : Int) < (s.size : Int)) = true := decide_eq_true hlI
          go_wp2
          go_ret
          exact ⟨rfl, B3⟩
      all_goals
        go_wp2_with fail
        refine (scan_c (s.extract 0 q) w2 W2 E2 (by rw [hcs.out]; unfold maxLen; omega)).mono ?_
        rintro e w3 ⟨v3, er3, at3, rfl, ho3, hb3⟩
        rw [hcl.out] at ho3
        obtain ⟨rfl, rfl, _⟩ := ho3.inr H5.out
        have B3 := B2.trans (hb3.mono B2.size)
        clear ho3 hb3 W2 E2 B2
        go_wp2
        go_ret
        exact ⟨rfl, B3⟩
end Go.Proofs.YtgebhhfliphpdaaDoor
