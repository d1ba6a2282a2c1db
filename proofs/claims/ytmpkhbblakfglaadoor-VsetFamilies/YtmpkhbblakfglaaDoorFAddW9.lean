/- The document's own Add. -/
import Derived.Test.YtmpkhbblakfglaaDoorFAdd9
import Derived.Test.YtmpkhbblakfglaaDoorCut9
import Derived.Test.YtmpkhbblakfglaaDoorSameC
namespace Go.Proofs.YtmpkhbblakfglaaDoor
open Go.ChangeShapes Go.WideShapes Go.ChangeAt Go.RowKit Go.Maps
set_option linter.unusedVariables false
set_option linter.unusedSimpArgs false

theorem refAdd_name (w : World) (p : Nat) (s : ByteArray) (hs : s.size ≤ maxLen) (hn : ¬ isNm s) :
    Calls Tryd.prog 15 #[.pointer (some ⟨p, 0, none⟩), .string s] w fun e w' => e = .returned (.int .i64 90) ∧ Below w.heap.size w w' := by
  go_enter Tryd.func15, Tryd.ntmps15
  go_wp2_with fail
  refine (refName_c s w hs).mono ?_
  rintro e w1 ⟨b, rfl, hb, B1⟩
  have hb' : b = false := by cases b with | true => exact absurd (hb.1 rfl) hn | false => rfl
  subst hb'
  clear hb hn
  go_wp2
  go_ret
  exact ⟨rfl, B1⟩
theorem refAdd_twice (w : World) (o : Nat → Nat) (L p m : Nat) (NL : List ByteArray) (xs : List Nat) (s : ByteArray) (h : RX w o L p m NL xs) (hm : m ≤ 16) (hs : s.size ≤ maxLen) (hn : isNm s) (hin : s ∈ NL) :
    Calls Tryd.prog 15 #[.pointer (some ⟨p, 0, none⟩), .string s] w fun e w' => e = .returned (.int .i64 91) ∧ Below w.heap.size w w' := by
  go_enter Tryd.func15, Tryd.ntmps15
  go_wp2_with fail
  refine (refName_c s w hs).mono ?_
  rintro e w1 ⟨b, rfl, hb, B1⟩
  obtain ⟨a, b', ao, ca, so, cs, hR⟩ := h.step (Step.ofBelow (I := fun _ => False) o B1) (fun _ _ _ => id)
  have hb' : b = true := hb.2 hn
  subst hb'
  clear hb hn h
  go_wp2_with fail
  refine (place_c w1 o L p a b' ao ca so cs m NL xs s hR (by omega)).mono ?_
  rintro e w2 ⟨r, rfl, rfl, hr⟩
  rcases hr with ⟨rfl, hno⟩ | ⟨k, rfl, hk, he⟩
  · exact absurd hin hno
  · have hk0 : (0 : Int) ≤ (k : Int) := by omega
    clear hin he hR hk
    go_wp2
    go_ret
    exact ⟨rfl, B1⟩
theorem refAdd_full (w : World) (o : Nat → Nat) (L p m : Nat) (NL : List ByteArray) (xs : List Nat) (s : ByteArray) (h : RX w o L p m NL xs) (hm : m = 16) (hs : s.size ≤ maxLen) (hn : isNm s) (hin : s ∉ NL) :
    Calls Tryd.prog 15 #[.pointer (some ⟨p, 0, none⟩), .string s] w fun e w' => e = .returned (.int .i64 92) ∧ Below w.heap.size w w' := by
  go_enter Tryd.func15, Tryd.ntmps15
  go_wp2_with fail
  refine (refName_c s w hs).mono ?_
  rintro e w1 ⟨b, rfl, hb, B1⟩
  obtain ⟨a, b', ao, ca, so, cs, hR⟩ := h.step (Step.ofBelow (I := fun _ => False) o B1) (fun _ _ _ => id)
  have hb' : b = true := hb.2 hn
  subst hb' hm
  clear hb hn h
  go_wp2_with fail
  refine (place_c w1 o L p a b' ao ca so cs 16 NL xs s hR (by omega)).mono ?_
  rintro e w2 ⟨r, rfl, rfl, hr⟩
  rcases hr with ⟨rfl, hno⟩ | ⟨k, rfl, hk, he⟩
  · obtain ⟨c0, c1, hfr⟩ := hR.blk.cells2
    clear hin hno hR
    go_wp2
    go_ret
    exact ⟨rfl, B1⟩
  · refine absurd ?_ hin
    rw [← he]
    have hl := hR.ln
    simp [List.getD, List.getElem?_eq_getElem (show k < NL.length by omega)]
def AddOut (w : World) (o : Nat → Nat) (L p m : Nat) (NL : List ByteArray) (xs : List Nat) (s : ByteArray) (e : Ending) (w' : World) : Prop := ∃ k, k ≤ m ∧ (∀ j, j < k → bls (NL.getD j ⟨#[]⟩) s) ∧ (k < m → ¬ bls (NL.getD k ⟨#[]⟩) s) ∧ ∃ o', e = .returned (.int .i64 0) ∧ RX w' o' L p (m + 1) (NL.take k ++ [s] ++ NL.drop k) (xs.take k ++ [0] ++ xs.drop k) ∧ Step (LL L) w o w' o'
theorem less_yes {s t : ByteArray} (h : bls s t) : Op.bytesLess s.toList t.toList = true := by rw [bytesLess_eq, Lib.toList_data, Lib.toList_data]; exact decide_eq_true h
theorem less_no {s t : ByteArray} (h : ¬ bls s t) : Op.bytesLess s.toList t.toList = false := by rw [bytesLess_eq, Lib.toList_data, Lib.toList_data]; exact decide_eq_false h
set_option maxRecDepth 100000 in
set_option maxHeartbeats 8000000 in
theorem refAdd_ok (w : World) (o : Nat → Nat) (L p m : Nat) (NL : List ByteArray) (xs : List Nat) (s : ByteArray) (h : RX w o L p m NL xs) (hm : m < 16) (hs : s.size ≤ maxLen) (hn : isNm s) (hin : s ∉ NL) :
    Calls Tryd.prog 15 #[.pointer (some ⟨p, 0, none⟩), .string s] w fun e w' => AddOut w o L p m NL xs s e w' := by
  go_enter Tryd.func15, Tryd.ntmps15
  go_wp2_with fail
  refine (refName_c s w hs).mono ?_
  rintro e w1 ⟨bb, rfl, hb, B1⟩
  have h := h.step (Step.ofBelow (I := fun _ => False) o B1) (fun _ _ _ => id)
  have st2 : Step (LL L) w o w1 o := Step.ofBelow o B1
  have hb' : bb = true := hb.2 hn
  subst hb'
  clear hb hn
  obtain ⟨a, b, ao, ca, so, cs, hR⟩ := h
  have q1 := oth_spec hR.la
  have q2 := oth2_spec hR.lb
  have q3 := hR.la
  have q4 := hR.lb
  have hln := hR.ln
  have hlx := hR.lx
  have hcap := hR.nr.cap
  have hcap2 := hR.sr.cap
  have hLLa : ∀ x, x = oth L a → LL L x := fun x hx => by unfold LL; omega
  have hLLb : ∀ x, x = oth2 L b → LL L x := fun x hx => by unfold LL; omega
  have hLL0 : ∀ x, x = L → LL L x := fun x hx => by unfold LL; omega
  have hLo : ¬ oth L a = L := by omega
  have hLo2 : ¬ oth2 L b = L := by omega
  have hLb : ¬ b = L := by omega
  have hLz : ¬ L = oth2 L b := by omega
  have hLq : ¬ oth L a = oth2 L b := by omega
  have hLx : ¬ b = oth2 L b := by omega
  obtain ⟨is, his, hzs0, hzs1, hzs2⟩ := info_parts infoStr9
  obtain ⟨ix, hix, hzx0, hzx1, hzx2⟩ := info_parts infoSet64
  have hcs64 : (Value.agg (b64 0).toArray).cells.size = 64 := by show (b64 0).toArray.size = 64; rw [List.size_toArray, b64_len]
  go_wp2_with fail
  refine (place_c w1 o L p a b ao ca so cs m NL xs s hR (by omega)).mono ?_
  rintro e w2 ⟨r, rfl, rfl, hr⟩
  rcases hr with ⟨rfl, _⟩ | ⟨k, rfl, hk, he⟩
  rotate_left
  · refine absurd ?_ hin
    rw [← he]
    simp [List.getD, List.getElem?_eq_getElem (show k < NL.length by omega)]
  have hmI : ¬ (16 : Int) ≤ (m : Int) := by omega
  have hRc := hR.blk.cells2
  obtain ⟨c0, c1, _⟩ := hRc
  clear hin hs B1
  go_wp2_with fail
  go_loopw [6] (fun v wr => ∃ k : Nat, k ≤ m ∧ v = .int .i64 (k : Nat) ∧ (∀ j, j < k → bls (NL.getD j ⟨#[]⟩) s) ∧ wr = w2) (fun v _ => m - (intOf v).toNat)
  case atStart => exact ⟨0, by omega, by go_num, fun j hj => by omega, rfl⟩
  case round =>
    obtain ⟨k, hkm, rfl, hless, rfl⟩ := hrel
    have HIN : Hid (∀ j, j < k → bls (NL.getD j ⟨#[]⟩) s) := hless
    clear hless
    by_cases hlt : k < m
    · obtain ⟨g, rfl, cg⟩ := hR.name k hlt
      have hkI : (k : Int) < (m : Int) := by omega
      by_cases hbl : bls (NL.getD k ⟨#[]⟩) s
      · have hin' : ∀ j, j < k + 1 → bls (NL.getD j ⟨#[]⟩) s := fun j hj => by
          by_cases e : j = k
          · subst e; exact hbl
          · exact HIN.out j (by omega)
        have hle : Op.bytesLess (NL.getD k ⟨#[]⟩).toList s.toList = true := less_yes hbl
        generalize NL.getD k ⟨#[]⟩ = t at cg hle
        clear hbl HIN
        go_wp2
        go_roundw
        case rel => (try ((repeat apply Exists.intro); refine ⟨?_, rfl⟩)); exact ⟨k + 1, by omega, by go_num, hin', by trivial⟩
        case measure => simp [intOf]; omega
      · have HEX : Hid (k < m → ¬ bls (NL.getD k ⟨#[]⟩) s) := fun _ => hbl
        have hle : Op.bytesLess (NL.getD k ⟨#[]⟩).toList s.toList = false := less_no hbl
        generalize NL.getD k ⟨#[]⟩ = t at cg hle
        clear hbl
        clear c0 c1
        have hb1 : 0 + k ≤ maxLen := by unfold maxLen; omega
        have hb2 : (0 + k) * 16 ≤ 140737488355328 := by omega
        have hb3 : k + 1 ≤ maxLen := by unfold maxLen; omega
        have hb4 : (k + 1) * 16 ≤ 140737488355328 := by omega
        have hb5 : k + 1 + (m - k) ≤ maxLen := by unfold maxLen; omega
        have hb6 : (k + 1 + (m - k)) * 16 ≤ 140737488355328 := by omega
        have hx1 : 0 + k ≤ maxLen := by unfold maxLen; omega
        have hx2 : (0 + k) * 64 ≤ 140737488355328 := by omega
        have hx3 : k + 1 ≤ maxLen := by unfold maxLen; omega
        have hx4 : (k + 1) * 64 ≤ 140737488355328 := by omega
        have hx5 : k + 1 + (m - k) ≤ maxLen := by unfold maxLen; omega
        have hx6 : (k + 1 + (m - k)) * 64 ≤ 140737488355328 := by omega
        have hkca : k ≤ ca := by omega
        have hkcs : k ≤ cs := by omega
        have hk2m : k ≤ m := hkm
        have hRc := hR.blk.cells2
        obtain ⟨c0, c1, hfr⟩ := hRc
        clear hfr
        go_wp2_with (first | (refine wpList_cutHi rfl 28 (.tmp 47) (.tmp 48) rfl 9 Tryd.underlying28 is his (some ⟨g, 0, none⟩) m ca k rfl rfl hkca ?_) | (at_builtin; refine wpList_append_any rfl (.tmp 43) (.tmp 49) 28 rfl 9 is (.string ByteArray.empty) 1 16 Tryd.underlying28 his hzs0 hzs1 hzs2 rfl (by decide) o (oth L a) _ 0 [] rfl (Row.nil _ _ _ _ _) (some ⟨g, 0, none⟩) k ca ((strsL NL).take (k * 1)) rfl (by rw [List.length_take, strsL_len]; have := hR.ln; omega) (hR.nr.newsHi k hkm) (fun u hu => strsL_one NL u (List.mem_of_mem_take hu)) hb1 hb2 ?_))
        intro ao3 ca3 w3 o3 r3 s3
        try simp only [Nat.zero_add, List.nil_append] at r3
        have R3 := hR.stepA s3
        have u3 := st2.trans (s3.mono fun x hx => hLLa x hx)
        clear c0 c1
        go_wp2_with (at_builtin; refine wpList_append_lab rfl (.tmp 51) (.tmp 53) 28 rfl 9 is (.string ByteArray.empty) 1 16 Tryd.underlying28 his hzs0 hzs1 hzs2 rfl (by decide) o3 (oth L a) _ k _ rfl (r3.step (allocStep (fun _ => False) w3 o3 _) (by simp)) ⟨w3.heap.size, 0, none⟩ 1 1 [.string s] rfl rfl (new_one_at (by simp) _ _) (by intro u hu; simp at hu; subst hu; rfl) (by decide) hb3 hb4 ?_)
        intro g4 ca4 w4 o4 r4 s4
        have s4b := (allocStep (fun x => x = oth L a) w3 o3 _).trans s4
        have R4 := R3.stepA s4b
        have u4 := u3.trans (s4b.mono fun x hx => hLLa x hx)
        clear R3 r3 s3 s4 s4b u3
        obtain ⟨d0, d1, hfd⟩ := R4.blk.cells2
        go_wp2_with (first | (refine wpList_cutLo rfl 28 (.tmp 60) (.tmp 61) rfl 9 Tryd.underlying28 is his 1 hzs1 (some ⟨g, 0, none⟩) m ca (k) rfl rfl hk2m ?_) | (at_builtin; refine wpList_append_any rfl (.tmp 56) (.tmp 62) 28 rfl 9 is (.string ByteArray.empty) 1 16 Tryd.underlying28 his hzs0 hzs1 hzs2 rfl (by decide) o4 (oth L a) _ (k + 1) _ rfl r4 (offA (some ⟨g, 0, none⟩) ca (k) 1) (m - (k)) (ca - (k)) ((strsL NL).drop ((k) * 1)) rfl (by rw [List.length_drop, strsL_len]; have := hR.ln; omega) (R4.nr.newsLo (k) hk2m) (fun u hu => strsL_one NL u (List.mem_of_mem_drop hu)) hb5 hb6 ?_))
        intro ao5 ca5 w5 o5 r5 s5
        have R5 := R4.stepA s5
        have u5 := u4.trans (s5.mono fun x hx => hLLa x hx)
        have e5 := R5.blk.cells2
        obtain ⟨e0, e1, hfe⟩ := e5
        have fe0 := hfe 0
        have s6 := setStep (fun x => x = L) w5 o5 ⟨p, 0, none⟩ (.slice ao5 ((k + 1) + (m - (k))) ca5) R5.blk.2
        have B6 := R5.blk.set2a (.slice ao5 ((k + 1) + (m - (k))) ca5)
        have N6 := r5.step s6 (hLo)
        have X6 := R5.sr.step s6 (hLb)
        have u6 := u5.trans (s6.mono fun x hx => hLL0 x hx)
        clear R5 R4 r5 s5 u5 u4 d0 d1 hfd hR hfe st2 r4
        clear s6
        generalize hN5 : (k + 1) + (m - (k)) = m5 at B6 N6 X6 u6 ⊢
        go_upto_region 16 with fail
        clear e0 e1 fe0
        generalize w5.setCell ⟨p, 0, none⟩ (.slice ao5 m5 ca5) = w6 at B6 N6 X6 u6 ⊢
        have f6 := B6.cells2
        obtain ⟨f0, f1, hff⟩ := f6
        go_wp2_with (first | (refine wpList_cutHi rfl 29 (.tmp 70) (.tmp 71) rfl 57 Tryd.underlying29 ix hix so m cs k rfl rfl hkcs ?_) | (at_builtin; refine wpList_append_any rfl (.tmp 66) (.tmp 72) 29 rfl 57 ix (.agg (b64 0).toArray) 64 64 Tryd.underlying29 hix hzx0 hzx1 hzx2 hcs64 (by decide) o5 (oth2 L b) _ 0 [] rfl (Row.nil _ _ _ _ _) so k cs ((setsL xs).take (k * 64)) rfl (by rw [List.length_take, setsL_len, hlx]; omega) (X6.newsHi k hkm) (fun u hu => setsL_one xs u (List.mem_of_mem_take hu)) hx1 hx2 ?_))
        intro so7 cs7 w7 o7 r7 s7
        try simp only [Nat.zero_add, List.nil_append] at r7
        have B7 := B6.step s7 hLz
        have N7 := N6.step s7 hLq
        have X7 := X6.step s7 hLx
        have u7 := u6.trans (s7.mono fun x hx => hLLb x hx)
        clear B6 N6 X6 s7 u6 f0 f1 hff
        go_wp2_with (first | (refine wpList_buildTo rfl 57 #[] rfl (some 75) rfl (b64 0).toArray (by simpa using built9) ?_) | (refine wpList_buildOne9 rfl (.tmp 75) rfl rfl ?_) | (at_builtin; refine wpList_append_lab rfl (.tmp 74) (.tmp 76) 29 rfl 57 ix (.agg (b64 0).toArray) 64 64 Tryd.underlying29 hix hzx0 hzx1 hzx2 hcs64 (by decide) o7 (oth2 L b) _ k _ rfl (r7.step (allocStep (fun _ => False) w7 o7 _) (by simp)) ⟨w7.heap.size, 0, none⟩ 1 1 (b64 0) rfl (b64_len 0) (new_set_at w7) (b64_one 0) (by decide) hx3 hx4 ?_))
        intro g8 cs8 w8 o8 r8 s8
        have s8b := (allocStep (fun x => x = oth2 L b) w7 o7 _).trans s8
        have B8 := B7.step s8b hLz
        have N8 := N7.step s8b hLq
        have X8 := X7.step s8b hLx
        have u8 := u7.trans (s8b.mono fun x hx => hLLb x hx)
        clear B7 N7 X7 s8 s8b u7 r7
        obtain ⟨h0, h1, hfh⟩ := B8.cells2
        go_wp2_with (first | (refine wpList_cutLo rfl 29 (.tmp 83) (.tmp 84) rfl 57 Tryd.underlying29 ix hix 64 hzx1 so m cs (k) rfl rfl hk2m ?_) | (at_builtin; refine wpList_append_any rfl (.tmp 79) (.tmp 85) 29 rfl 57 ix (.agg (b64 0).toArray) 64 64 Tryd.underlying29 hix hzx0 hzx1 hzx2 hcs64 (by decide) o8 (oth2 L b) _ (k + 1) _ rfl r8 (offA so cs (k) 64) (m - (k)) (cs - (k)) ((setsL xs).drop ((k) * 64)) rfl (by rw [List.length_drop, setsL_len, hlx]; omega) (X8.newsLo (k) hk2m) (fun u hu => setsL_one xs u (List.mem_of_mem_drop hu)) hx5 hx6 ?_))
        intro so9 cs9 w9 o9 r9 s9
        have B9 := B8.step s9 hLz
        have N9 := N8.step s9 hLq
        have u9 := u8.trans (s9.mono fun x hx => hLLb x hx)
        obtain ⟨i0, i1, hfi⟩ := B9.cells2
        have fi1 := hfi 1
        try rw [hN5] at r9
        try rw [hN5]
        have s10 := setStep (fun x => x = L) w9 o9 ⟨p, 1, none⟩ (.slice so9 m5 cs9) B9.2
        have B10 := B9.set2b (.slice so9 m5 cs9)
        have N10 := N9.step s10 hLo
        have X10 := r9.step s10 hLo2
        have u10 := u9.trans (s10.mono fun x hx => hLL0 x hx)
        have HR : Hid (AddOut w o L p m NL xs s (.returned (.int .i64 0)) (w9.setCell ⟨p, 1, none⟩ (.slice so9 m5 cs9))) := by
          have hm5 : m5 = m + 1 := by omega
          subst hm5
          refine ⟨k, hkm, HIN.out, HEX.out, o9, rfl, ⟨oth L a, oth2 L b, ao5, ca5, so9, cs9, B10, ?_, ?_, q1.1, q2.1, by simp; omega, by simp; omega⟩, u10⟩
          · simpa [strsL] using N10
          · rw [setsL_app, setsL_app, ← setsL_take xs k (by omega), ← setsL_drop xs k (by omega)]
            have e1 : setsL [0] = b64 0 := by simp [setsL]
            rw [e1]
            simpa using X10
        clear B9 N9 r9 s9 u9 B8 N8 X8 u8 s10 B10 N10 X10 u10 h0 h1 hfh hfi
        go_wp2
        go_ret
        exact HR.out
    · have hkI : ¬ (k : Int) < (m : Int) := by omega
      have HEX : Hid (k < m → ¬ bls (NL.getD k ⟨#[]⟩) s) := fun h => absurd h hlt
      clear c0 c1
      have hb1 : 0 + k ≤ maxLen := by unfold maxLen; omega
      have hb2 : (0 + k) * 16 ≤ 140737488355328 := by omega
      have hb3 : k + 1 ≤ maxLen := by unfold maxLen; omega
      have hb4 : (k + 1) * 16 ≤ 140737488355328 := by omega
      have hb5 : k + 1 + (m - k) ≤ maxLen := by unfold maxLen; omega
      have hb6 : (k + 1 + (m - k)) * 16 ≤ 140737488355328 := by omega
      have hx1 : 0 + k ≤ maxLen := by unfold maxLen; omega
      have hx2 : (0 + k) * 64 ≤ 140737488355328 := by omega
      have hx3 : k + 1 ≤ maxLen := by unfold maxLen; omega
      have hx4 : (k + 1) * 64 ≤ 140737488355328 := by omega
      have hx5 : k + 1 + (m - k) ≤ maxLen := by unfold maxLen; omega
      have hx6 : (k + 1 + (m - k)) * 64 ≤ 140737488355328 := by omega
      have hkca : k ≤ ca := by omega
      have hkcs : k ≤ cs := by omega
      have hk2m : k ≤ m := hkm
      have hRc := hR.blk.cells2
      obtain ⟨c0, c1, hfr⟩ := hRc
      clear hfr
      go_wp2_with (first | (refine wpList_cutHi rfl 28 (.tmp 47) (.tmp 48) rfl 9 Tryd.underlying28 is his ao m ca k rfl rfl hkca ?_) | (at_builtin; refine wpList_append_any rfl (.tmp 43) (.tmp 49) 28 rfl 9 is (.string ByteArray.empty) 1 16 Tryd.underlying28 his hzs0 hzs1 hzs2 rfl (by decide) o (oth L a) _ 0 [] rfl (Row.nil _ _ _ _ _) ao k ca ((strsL NL).take (k * 1)) rfl (by rw [List.length_take, strsL_len]; have := hR.ln; omega) (hR.nr.newsHi k hkm) (fun u hu => strsL_one NL u (List.mem_of_mem_take hu)) hb1 hb2 ?_))
      intro ao3 ca3 w3 o3 r3 s3
      try simp only [Nat.zero_add, List.nil_append] at r3
      have R3 := hR.stepA s3
      have u3 := st2.trans (s3.mono fun x hx => hLLa x hx)
      clear c0 c1
      go_wp2_with (at_builtin; refine wpList_append_lab rfl (.tmp 51) (.tmp 53) 28 rfl 9 is (.string ByteArray.empty) 1 16 Tryd.underlying28 his hzs0 hzs1 hzs2 rfl (by decide) o3 (oth L a) _ k _ rfl (r3.step (allocStep (fun _ => False) w3 o3 _) (by simp)) ⟨w3.heap.size, 0, none⟩ 1 1 [.string s] rfl rfl (new_one_at (by simp) _ _) (by intro u hu; simp at hu; subst hu; rfl) (by decide) hb3 hb4 ?_)
      intro g4 ca4 w4 o4 r4 s4
      have s4b := (allocStep (fun x => x = oth L a) w3 o3 _).trans s4
      have R4 := R3.stepA s4b
      have u4 := u3.trans (s4b.mono fun x hx => hLLa x hx)
      clear R3 r3 s3 s4 s4b u3
      obtain ⟨d0, d1, hfd⟩ := R4.blk.cells2
      go_wp2_with (first | (refine wpList_cutLo rfl 28 (.tmp 60) (.tmp 61) rfl 9 Tryd.underlying28 is his 1 hzs1 ao m ca (k) rfl rfl hk2m ?_) | (at_builtin; refine wpList_append_any rfl (.tmp 56) (.tmp 62) 28 rfl 9 is (.string ByteArray.empty) 1 16 Tryd.underlying28 his hzs0 hzs1 hzs2 rfl (by decide) o4 (oth L a) _ (k + 1) _ rfl r4 (offA ao ca (k) 1) (m - (k)) (ca - (k)) ((strsL NL).drop ((k) * 1)) rfl (by rw [List.length_drop, strsL_len]; have := hR.ln; omega) (R4.nr.newsLo (k) hk2m) (fun u hu => strsL_one NL u (List.mem_of_mem_drop hu)) hb5 hb6 ?_))
      intro ao5 ca5 w5 o5 r5 s5
      have R5 := R4.stepA s5
      have u5 := u4.trans (s5.mono fun x hx => hLLa x hx)
      have e5 := R5.blk.cells2
      obtain ⟨e0, e1, hfe⟩ := e5
      have fe0 := hfe 0
      have s6 := setStep (fun x => x = L) w5 o5 ⟨p, 0, none⟩ (.slice ao5 ((k + 1) + (m - (k))) ca5) R5.blk.2
      have B6 := R5.blk.set2a (.slice ao5 ((k + 1) + (m - (k))) ca5)
      have N6 := r5.step s6 (hLo)
      have X6 := R5.sr.step s6 (hLb)
      have u6 := u5.trans (s6.mono fun x hx => hLL0 x hx)
      clear R5 R4 r5 s5 u5 u4 d0 d1 hfd hR hfe st2 r4
      clear s6
      generalize hN5 : (k + 1) + (m - (k)) = m5 at B6 N6 X6 u6 ⊢
      go_upto_region 16 with fail
      clear e0 e1 fe0
      generalize w5.setCell ⟨p, 0, none⟩ (.slice ao5 m5 ca5) = w6 at B6 N6 X6 u6 ⊢
      have f6 := B6.cells2
      obtain ⟨f0, f1, hff⟩ := f6
      go_wp2_with (first | (refine wpList_cutHi rfl 29 (.tmp 70) (.tmp 71) rfl 57 Tryd.underlying29 ix hix so m cs k rfl rfl hkcs ?_) | (at_builtin; refine wpList_append_any rfl (.tmp 66) (.tmp 72) 29 rfl 57 ix (.agg (b64 0).toArray) 64 64 Tryd.underlying29 hix hzx0 hzx1 hzx2 hcs64 (by decide) o5 (oth2 L b) _ 0 [] rfl (Row.nil _ _ _ _ _) so k cs ((setsL xs).take (k * 64)) rfl (by rw [List.length_take, setsL_len, hlx]; omega) (X6.newsHi k hkm) (fun u hu => setsL_one xs u (List.mem_of_mem_take hu)) hx1 hx2 ?_))
      intro so7 cs7 w7 o7 r7 s7
      try simp only [Nat.zero_add, List.nil_append] at r7
      have B7 := B6.step s7 hLz
      have N7 := N6.step s7 hLq
      have X7 := X6.step s7 hLx
      have u7 := u6.trans (s7.mono fun x hx => hLLb x hx)
      clear B6 N6 X6 s7 u6 f0 f1 hff
      go_wp2_with (first | (refine wpList_buildTo rfl 57 #[] rfl (some 75) rfl (b64 0).toArray (by simpa using built9) ?_) | (refine wpList_buildOne9 rfl (.tmp 75) rfl rfl ?_) | (at_builtin; refine wpList_append_lab rfl (.tmp 74) (.tmp 76) 29 rfl 57 ix (.agg (b64 0).toArray) 64 64 Tryd.underlying29 hix hzx0 hzx1 hzx2 hcs64 (by decide) o7 (oth2 L b) _ k _ rfl (r7.step (allocStep (fun _ => False) w7 o7 _) (by simp)) ⟨w7.heap.size, 0, none⟩ 1 1 (b64 0) rfl (b64_len 0) (new_set_at w7) (b64_one 0) (by decide) hx3 hx4 ?_))
      intro g8 cs8 w8 o8 r8 s8
      have s8b := (allocStep (fun x => x = oth2 L b) w7 o7 _).trans s8
      have B8 := B7.step s8b hLz
      have N8 := N7.step s8b hLq
      have X8 := X7.step s8b hLx
      have u8 := u7.trans (s8b.mono fun x hx => hLLb x hx)
      clear B7 N7 X7 s8 s8b u7 r7
      obtain ⟨h0, h1, hfh⟩ := B8.cells2
      go_wp2_with (first | (refine wpList_cutLo rfl 29 (.tmp 83) (.tmp 84) rfl 57 Tryd.underlying29 ix hix 64 hzx1 so m cs (k) rfl rfl hk2m ?_) | (at_builtin; refine wpList_append_any rfl (.tmp 79) (.tmp 85) 29 rfl 57 ix (.agg (b64 0).toArray) 64 64 Tryd.underlying29 hix hzx0 hzx1 hzx2 hcs64 (by decide) o8 (oth2 L b) _ (k + 1) _ rfl r8 (offA so cs (k) 64) (m - (k)) (cs - (k)) ((setsL xs).drop ((k) * 64)) rfl (by rw [List.length_drop, setsL_len, hlx]; omega) (X8.newsLo (k) hk2m) (fun u hu => setsL_one xs u (List.mem_of_mem_drop hu)) hx5 hx6 ?_))
      intro so9 cs9 w9 o9 r9 s9
      have B9 := B8.step s9 hLz
      have N9 := N8.step s9 hLq
      have u9 := u8.trans (s9.mono fun x hx => hLLb x hx)
      obtain ⟨i0, i1, hfi⟩ := B9.cells2
      have fi1 := hfi 1
      try rw [hN5] at r9
      try rw [hN5]
      have s10 := setStep (fun x => x = L) w9 o9 ⟨p, 1, none⟩ (.slice so9 m5 cs9) B9.2
      have B10 := B9.set2b (.slice so9 m5 cs9)
      have N10 := N9.step s10 hLo
      have X10 := r9.step s10 hLo2
      have u10 := u9.trans (s10.mono fun x hx => hLL0 x hx)
      have HR : Hid (AddOut w o L p m NL xs s (.returned (.int .i64 0)) (w9.setCell ⟨p, 1, none⟩ (.slice so9 m5 cs9))) := by
        have hm5 : m5 = m + 1 := by omega
        subst hm5
        refine ⟨k, hkm, HIN.out, HEX.out, o9, rfl, ⟨oth L a, oth2 L b, ao5, ca5, so9, cs9, B10, ?_, ?_, q1.1, q2.1, by simp; omega, by simp; omega⟩, u10⟩
        · simpa [strsL] using N10
        · rw [setsL_app, setsL_app, ← setsL_take xs k (by omega), ← setsL_drop xs k (by omega)]
          have e1 : setsL [0] = b64 0 := by simp [setsL]
          rw [e1]
          simpa using X10
      clear B9 N9 r9 s9 u9 B8 N8 X8 u8 s10 B10 N10 X10 u10 h0 h1 hfh hfi
      go_wp2
      go_ret
      exact HR.out
end Go.Proofs.YtmpkhbblakfglaaDoor
