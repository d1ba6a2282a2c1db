/- isthmusref11: what digits say; the sign that begins a text. -/
import Derived.Test.YtgebhhfliphpdaaDoorLexQ
namespace Go.Proofs.YtgebhhfliphpdaaDoor
open Go.ChangeShapes Go.WideShapes Go.ChangeAt Go.RowKit
set_option linter.unusedVariables false

/-- What number answers. -/
def NumOut (l : List UInt8) (v : Int) (b : Bool) : Prop := (b = true ∧ ∀ a, numT l a = .inr ⟨1, v, [], a⟩) ∨ (b = false ∧ v = 0 ∧ ∀ a, numT l a = .inl 111)
def NumPost (l : List UInt8) (e : Ending) : Prop := ∃ v b, e = .returned (.tuple #[.int .i64 v, .bool b]) ∧ NumOut l v b
theorem take_dval (l : List UInt8) (i : Nat) (h : i < l.length) : dval 0 (l.take (i + 1)) = dval 0 (l.take i) * 10 + ((l[i]).toNat - 48) := by
  rw [List.take_add_one, List.getElem?_eq_getElem h]
  show dval 0 (l.take i ++ [l[i]]) = _
  rw [dval_append, dval_cons, dval_nil]
theorem take_dval_le (l : List UInt8) (i : Nat) : dval 0 (l.take i) ≤ dval 0 l := by
  have h := List.take_append_drop i l
  have h2 := dval_append 0 (l.take i) (l.drop i)
  rw [h] at h2
  rw [h2]
  exact dval_mono _ _
set_option maxHeartbeats 1000000 in
theorem number_r (s : ByteArray) (w : World) (h0 : 0 < s.size) (hs : s.size ≤ 2000) (hD : Digs s.data.toList) :
    Calls Tryd.prog 28 #[.string s] w fun e w' => NumPost s.data.toList e ∧ w' = w := by
  have HL : Hid (s.data.toList.length = s.size) := data_len s
  have hne : s.data.toList ≠ [] := fun e => by have := HL.out; rw [e] at this; simp at this; omega
  have hh := head_at s h0
  by_cases h19 : 19 < s.size
  · have fin : NumOut s.data.toList 0 false := .inr ⟨rfl, rfl, fun a => numT_long hD (by rw [HL.out]; exact h19) a⟩
    have HF := Lib.hid fin
    have hI : (19 : Int) < (s.size : Int) := by omega
    clear fin hh
    go_enter Tryd.func28, Tryd.ntmps28
    go_wp2
    go_ret2
    exact ⟨⟨_, _, rfl, HF.out⟩, rfl⟩
  · have hI : ¬ (19 : Int) < (s.size : Int) := by omega
    have hb0 : (s[0]'h0).toNat < 256 := UInt8.toNat_lt _
    by_cases hlead : 1 < s.size ∧ (s[0]'h0).toNat = 48
    · obtain ⟨h1, h48⟩ := hlead
      have h5 : s[0]'h0 = 48 := UInt8.toNat.inj h48
      have fin : NumOut s.data.toList 0 false := .inr ⟨rfl, rfl, fun a => numT_lead (by rw [hh, h5]) (by rw [HL.out]; exact h1) a⟩
      have HF := Lib.hid fin
      have h1I : (1 : Int) < (s.size : Int) := by omega
      clear fin hh h5
      go_enter Tryd.func28, Tryd.ntmps28
      go_wp2
      go_ret2
      exact ⟨⟨_, _, rfl, HF.out⟩, rfl⟩
    · have HY : Hid (dval 0 s.data.toList < 9223372036854775808 → NumOut s.data.toList (dval 0 s.data.toList : Nat) true) := fun h => by
        refine .inl ⟨rfl, fun a => numT_yes hD hne ?_ h a⟩
        by_cases h1 : 1 < s.size
        · left
          rw [hh]
          intro e
          injection e with e
          exact hlead ⟨h1, by rw [e]; rfl⟩
        · right
          rw [HL.out]
          omega
      have HX : Hid (9223372036854775808 ≤ dval 0 s.data.toList → NumOut s.data.toList 0 false) := fun h => .inr ⟨rfl, rfl, fun a => numT_no ((atoi_digs hD hne).2 h) a⟩
      have HDD := Lib.hid hD
      by_cases h1 : 1 < s.size
      · have h1I : (1 : Int) < (s.size : Int) := by omega
        have h48I : ¬ ((s[0]'h0).toNat : Int) = 48 := by
          intro e
          exact hlead ⟨h1, by omega⟩
        have h48B : (((s[0]'h0).toNat : Int) == 48) = false := by simpa using h48I
        clear hlead hh
        go_enter Tryd.func28, Tryd.ntmps28
        go_wp2
        go_loopw [4, 5] (fun v4 v5 wr => ∃ k n : Nat, v5 = .int .i64 (k : Nat) ∧ v4 = .int .i64 (n : Nat) ∧ k ≤ s.size ∧ n = dval 0 (s.data.toList.take k) ∧ n < 9223372036854775808 ∧ wr = w) (fun _ v _ => s.size - (intOf v).toNat)
        case atStart => exact ⟨0, 0, by go_num, by go_num, by omega, by rw [List.take_zero, dval_nil], by omega, rfl⟩
        case round =>
          obtain ⟨k, n, rfl, rfl, hk, hn, hnb, rfl⟩ := hrel
          have HN := Lib.hid hn
          clear hn
          by_cases hlt : k < s.size
          · have hkl : k < s.data.toList.length := by rw [HL.out]; exact hlt
            have hkI : (k : Int) < (s.size : Int) := by omega
            have hdg := HDD.out (s.data.toList[k]'hkl) (List.getElem_mem _)
            have htd := take_dval s.data.toList k hkl
            rw [data_get s k hlt hkl] at hdg htd
            have hle := take_dval_le s.data.toList (k + 1)
            obtain ⟨d, hd⟩ : ∃ d, d = (s[k]'hlt).toNat - 48 := ⟨_, rfl⟩
            have hd9 : d ≤ 9 := by omega
            have hdI : ((s[k]'hlt).toNat : Int) - 48 = (d : Int) := by omega
            rw [← hd, ← HN.out] at htd
            obtain ⟨q, hq⟩ : ∃ q, q = (9223372036854775807 - d) / 10 := ⟨_, rfl⟩
            have hqI : (9223372036854775807 - (d : Int)).tdiv 10 = (q : Int) := by
              rw [Int.tdiv_eq_ediv_of_nonneg (by omega)]
              omega
            have hwq : IntKind.i64.wrap (q : Int) = (q : Int) := by rw [IntKind.wrap_i64]; omega
            by_cases hov : q < n
            · have hovI : (q : Int) < (n : Int) := by omega
              have fin := HX.out (by omega)
              have HF := Lib.hid fin
              clear fin htd hle hd hq hdg
              go_wp2
              go_ret2
              exact ⟨⟨_, _, rfl, HF.out⟩, rfl⟩
            · have hovI : ¬ (q : Int) < (n : Int) := by omega
              have hnn : 10 * n + d < 9223372036854775808 := by omega
              have HT := Lib.hid htd
              clear htd hle hd hq hdg
              go_wp2
              go_roundw
              case rel => (try ((repeat apply Exists.intro); refine ⟨?_, rfl⟩)); exact ⟨k + 1, 10 * n + d, by go_num, by go_num, by omega, by rw [HT.out]; omega, hnn, by trivial⟩
              case measure => simp [intOf]; omega
          · obtain rfl : k = s.size := by omega
            have hn2 := HN.out
            rw [List.take_of_length_le (by rw [HL.out]; exact Nat.le_refl _)] at hn2
            have fin := HY.out (by omega)
            rw [← hn2] at fin
            have HF := Lib.hid fin
            clear fin hn2
            go_wp2
            go_ret2
            exact ⟨⟨_, _, rfl, HF.out⟩, rfl⟩
      · have h1I : ¬ (1 : Int) < (s.size : Int) := by omega
        clear hlead hh
        go_enter Tryd.func28, Tryd.ntmps28
        go_wp2
        go_loopw [4, 5] (fun v4 v5 wr => ∃ k n : Nat, v5 = .int .i64 (k : Nat) ∧ v4 = .int .i64 (n : Nat) ∧ k ≤ s.size ∧ n = dval 0 (s.data.toList.take k) ∧ n < 9223372036854775808 ∧ wr = w) (fun _ v _ => s.size - (intOf v).toNat)
        case atStart => exact ⟨0, 0, by go_num, by go_num, by omega, by rw [List.take_zero, dval_nil], by omega, rfl⟩
        case round =>
          obtain ⟨k, n, rfl, rfl, hk, hn, hnb, rfl⟩ := hrel
          have HN := Lib.hid hn
          clear hn
          by_cases hlt : k < s.size
          · have hkl : k < s.data.toList.length := by rw [HL.out]; exact hlt
            have hkI : (k : Int) < (s.size : Int) := by omega
            have hdg := HDD.out (s.data.toList[k]'hkl) (List.getElem_mem _)
            have htd := take_dval s.data.toList k hkl
            rw [data_get s k hlt hkl] at hdg htd
            have hle := take_dval_le s.data.toList (k + 1)
            obtain ⟨d, hd⟩ : ∃ d, d = (s[k]'hlt).toNat - 48 := ⟨_, rfl⟩
            have hd9 : d ≤ 9 := by omega
            have hdI : ((s[k]'hlt).toNat : Int) - 48 = (d : Int) := by omega
            rw [← hd, ← HN.out] at htd
            obtain ⟨q, hq⟩ : ∃ q, q = (9223372036854775807 - d) / 10 := ⟨_, rfl⟩
            have hqI : (9223372036854775807 - (d : Int)).tdiv 10 = (q : Int) := by
              rw [Int.tdiv_eq_ediv_of_nonneg (by omega)]
              omega
            have hwq : IntKind.i64.wrap (q : Int) = (q : Int) := by rw [IntKind.wrap_i64]; omega
            by_cases hov : q < n
            · have hovI : (q : Int) < (n : Int) := by omega
              have fin := HX.out (by omega)
              have HF := Lib.hid fin
              clear fin htd hle hd hq hdg
              go_wp2
              go_ret2
              exact ⟨⟨_, _, rfl, HF.out⟩, rfl⟩
            · have hovI : ¬ (q : Int) < (n : Int) := by omega
              have hnn : 10 * n + d < 9223372036854775808 := by omega
              have HT := Lib.hid htd
              clear htd hle hd hq hdg
              go_wp2
              go_roundw
              case rel => (try ((repeat apply Exists.intro); refine ⟨?_, rfl⟩)); exact ⟨k + 1, 10 * n + d, by go_num, by go_num, by omega, by rw [HT.out]; omega, hnn, by trivial⟩
              case measure => simp [intOf]; omega
          · obtain rfl : k = s.size := by omega
            have hn2 := HN.out
            rw [List.take_of_length_le (by rw [HL.out]; exact Nat.le_refl _)] at hn2
            have fin := HY.out (by omega)
            rw [← hn2] at fin
            have HF := Lib.hid fin
            clear fin hn2
            go_wp2
            go_ret2
            exact ⟨⟨_, _, rfl, HF.out⟩, rfl⟩
end Go.Proofs.YtgebhhfliphpdaaDoor
