/- The document's own Drop. -/
import Derived.Test.YtmpkhbblakfglaaDoorFAdd9
import Derived.Test.YtmpkhbblakfglaaDoorCut9
import Derived.Test.YtmpkhbblakfglaaDoorSameC
namespace Go.Proofs.YtmpkhbblakfglaaDoor
open Go.ChangeShapes Go.WideShapes Go.ChangeAt Go.RowKit Go.Maps
set_option linter.unusedVariables false
set_option linter.unusedSimpArgs false

theorem refDrop_no (w : World) (o : Nat → Nat) (L p m : Nat) (NL : List ByteArray) (xs : List Nat) (s : ByteArray) (h : RX w o L p m NL xs) (hm : m ≤ 16) (hs : s ∉ NL) :
    Calls Tryd.prog 17 #[.pointer (some ⟨p, 0, none⟩), .string s] w fun e w' => e = .returned (.int .i64 93) ∧ w' = w := by
  obtain ⟨a, b, ao, ca, so, cs, hR⟩ := h
  go_enter Tryd.func17, Tryd.ntmps17
  go_wp2_with fail
  refine (place_c w o L p a b ao ca so cs m NL xs s hR (by omega)).mono ?_
  rintro e w1 ⟨r, rfl, rfl, hr⟩
  rcases hr with ⟨rfl, _⟩ | ⟨k, rfl, hk, he⟩
  · go_wp2
    go_ret
    exact ⟨rfl, rfl⟩
  · refine absurd ?_ hs
    rw [← he]
    have hl := hR.ln
    simp [List.getD, List.getElem?_eq_getElem (show k < NL.length by omega)]
def DropOut (w : World) (o : Nat → Nat) (L p m k : Nat) (NL : List ByteArray) (xs : List Nat) (e : Ending) (w' : World) : Prop := ∃ o', e = .returned (.int .i64 0) ∧ RX w' o' L p (m - 1) (NL.take k ++ NL.drop (k + 1)) (xs.take k ++ xs.drop (k + 1)) ∧ Step (LL L) w o w' o'
set_option maxRecDepth 100000 in
set_option maxHeartbeats 8000000 in
theorem refDrop_ok (w : World) (o : Nat → Nat) (L p m : Nat) (NL : List ByteArray) (xs : List Nat) (s : ByteArray) (h : RX w o L p m NL xs) (hm : m ≤ 16) (hs : s ∈ NL) :
    Calls Tryd.prog 17 #[.pointer (some ⟨p, 0, none⟩), .string s] w fun e w' => ∃ k, k < m ∧ NL.getD k ⟨#[]⟩ = s ∧ DropOut w o L p m k NL xs e w' := by
  obtain ⟨a, b, ao, ca, so, cs, hR⟩ := h
  have q1 := oth_spec hR.la
  have q2 := oth2_spec hR.lb
  have q3 := hR.la
  have q4 := hR.lb
  have hln := hR.ln
  have hlx := hR.lx
  have hcap := hR.nr.cap
  have hcap2 := hR.sr.cap
  have hLLa : ∀ x, x = oth L a → LL L x := fun x hx => by unfold LL; omega
  have hLLb : ∀ x, x = oth2 L b → LL L x := fun x hx => by unfold LL; omega
  have hLL0 : ∀ x, x = L → LL L x := fun x hx => by unfold LL; omega
  have hLo : ¬ oth L a = L := by omega
  have hLo2 : ¬ oth2 L b = L := by omega
  have hLb : ¬ b = L := by omega
  have hLz : ¬ L = oth2 L b := by omega
  have hLq : ¬ oth L a = oth2 L b := by omega
  have hLx : ¬ b = oth2 L b := by omega
  obtain ⟨is, his, hzs0, hzs1, hzs2⟩ := info_parts infoStr9
  obtain ⟨ix, hix, hzx0, hzx1, hzx2⟩ := info_parts infoSet64
  have hcs64 : (Value.agg (b64 0).toArray).cells.size = 64 := by show (b64 0).toArray.size = 64; rw [List.size_toArray, b64_len]
  go_enter Tryd.func17, Tryd.ntmps17
  go_wp2_with fail
  refine (place_c w o L p a b ao ca so cs m NL xs s hR (by omega)).mono ?_
  rintro e w2 ⟨r, rfl, rfl, hr⟩
  rcases hr with ⟨rfl, hno⟩ | ⟨k, rfl, hk, he⟩
  · exact absurd hs hno
  have HE : Hid (k < m ∧ NL.getD k ⟨#[]⟩ = s) := ⟨hk, he⟩
  have hkm : k ≤ m := by omega
  have hkca : k ≤ ca := by omega
  have hkcs : k ≤ cs := by omega
  have hk2m : k + 1 ≤ m := by omega
  have hb1 : 0 + k ≤ maxLen := by unfold maxLen; omega
  have hb2 : (0 + k) * 16 ≤ 140737488355328 := by omega
  have hb5 : k + (m - (k + 1)) ≤ maxLen := by unfold maxLen; omega
  have hb6 : (k + (m - (k + 1))) * 16 ≤ 140737488355328 := by omega
  have hx1 : 0 + k ≤ maxLen := by unfold maxLen; omega
  have hx2 : (0 + k) * 64 ≤ 140737488355328 := by omega
  have hx5 : k + (m - (k + 1)) ≤ maxLen := by unfold maxLen; omega
  have hx6 : (k + (m - (k + 1))) * 64 ≤ 140737488355328 := by omega
  have st2 : Step (LL L) w2 o w2 o := Step.refl _ _ _
  have hkw : IntKind.i64.wrap ((k : Int) + 1) = ((k + 1 : Nat) : Int) := by rw [IntKind.wrap_i64]; omega
  clear he hk hs
  have hRc := hR.blk.cells2
  obtain ⟨c0, c1, hfr⟩ := hRc
  clear hfr
  go_wp2_with (first | (refine wpList_cutHi rfl 28 (.tmp 17) (.tmp 18) rfl 9 Tryd.underlying28 is his ao m ca k rfl rfl hkca ?_) | (at_builtin; refine wpList_append_any rfl (.tmp 13) (.tmp 19) 28 rfl 9 is (.string ByteArray.empty) 1 16 Tryd.underlying28 his hzs0 hzs1 hzs2 rfl (by decide) o (oth L a) _ 0 [] rfl (Row.nil _ _ _ _ _) ao k ca ((strsL NL).take (k * 1)) rfl (by rw [List.length_take, strsL_len]; have := hR.ln; omega) (hR.nr.newsHi k hkm) (fun u hu => strsL_one NL u (List.mem_of_mem_take hu)) hb1 hb2 ?_))
  intro ao3 ca3 w3 o3 r3 s3
  try simp only [Nat.zero_add, List.nil_append] at r3
  have R3 := hR.stepA s3
  have u3 := st2.trans (s3.mono fun x hx => hLLa x hx)
  clear c0 c1
  obtain ⟨d0, d1, hfd⟩ := R3.blk.cells2
  go_wp2_with (first | (refine wpList_cutLo rfl 28 (.tmp 26) (.tmp 28) rfl 9 Tryd.underlying28 is his 1 hzs1 ao m ca (k + 1) rfl (by simp [Act.eval]) hk2m ?_) | (at_builtin; refine wpList_append_any rfl (.tmp 22) (.tmp 29) 28 rfl 9 is (.string ByteArray.empty) 1 16 Tryd.underlying28 his hzs0 hzs1 hzs2 rfl (by decide) o3 (oth L a) _ k _ rfl r3 (offA ao ca (k + 1) 1) (m - (k + 1)) (ca - (k + 1)) ((strsL NL).drop ((k + 1) * 1)) rfl (by rw [List.length_drop, strsL_len]; have := hR.ln; omega) (R3.nr.newsLo (k + 1) hk2m) (fun u hu => strsL_one NL u (List.mem_of_mem_drop hu)) hb5 hb6 ?_))
  intro ao5 ca5 w5 o5 r5 s5
  have R5 := R3.stepA s5
  have u5 := u3.trans (s5.mono fun x hx => hLLa x hx)
  have e5 := R5.blk.cells2
  obtain ⟨e0, e1, hfe⟩ := e5
  have fe0 := hfe 0
  have s6 := setStep (fun x => x = L) w5 o5 ⟨p, 0, none⟩ (.slice ao5 (k + (m - (k + 1))) ca5) R5.blk.2
  have B6 := R5.blk.set2a (.slice ao5 (k + (m - (k + 1))) ca5)
  have N6 := r5.step s6 (hLo)
  have X6 := R5.sr.step s6 (hLb)
  have u6 := u5.trans (s6.mono fun x hx => hLL0 x hx)
  clear R5 R3 r5 s5 u5 u3 d0 d1 hfd hR hfe st2 r3
  clear s6
  generalize hN5 : k + (m - (k + 1)) = m5 at B6 N6 X6 u6 ⊢
  go_upto_region 8 with fail
  clear e0 e1 fe0
  generalize w5.setCell ⟨p, 0, none⟩ (.slice ao5 m5 ca5) = w6 at B6 N6 X6 u6 ⊢
  have f6 := B6.cells2
  obtain ⟨f0, f1, hff⟩ := f6
  go_wp2_with (first | (refine wpList_cutHi rfl 29 (.tmp 37) (.tmp 38) rfl 57 Tryd.underlying29 ix hix so m cs k rfl rfl hkcs ?_) | (at_builtin; refine wpList_append_any rfl (.tmp 33) (.tmp 39) 29 rfl 57 ix (.agg (b64 0).toArray) 64 64 Tryd.underlying29 hix hzx0 hzx1 hzx2 hcs64 (by decide) o5 (oth2 L b) _ 0 [] rfl (Row.nil _ _ _ _ _) so k cs ((setsL xs).take (k * 64)) rfl (by rw [List.length_take, setsL_len, hlx]; omega) (X6.newsHi k hkm) (fun u hu => setsL_one xs u (List.mem_of_mem_take hu)) hx1 hx2 ?_))
  intro so7 cs7 w7 o7 r7 s7
  try simp only [Nat.zero_add, List.nil_append] at r7
  have B7 := B6.step s7 hLz
  have N7 := N6.step s7 hLq
  have X7 := X6.step s7 hLx
  have u7 := u6.trans (s7.mono fun x hx => hLLb x hx)
  clear B6 N6 X6 s7 u6 f0 f1 hff
  obtain ⟨h0, h1, hfh⟩ := B7.cells2
  go_wp2_with (first | (refine wpList_cutLo rfl 29 (.tmp 46) (.tmp 48) rfl 57 Tryd.underlying29 ix hix 64 hzx1 so m cs (k + 1) rfl (by simp [Act.eval]) hk2m ?_) | (at_builtin; refine wpList_append_any rfl (.tmp 42) (.tmp 49) 29 rfl 57 ix (.agg (b64 0).toArray) 64 64 Tryd.underlying29 hix hzx0 hzx1 hzx2 hcs64 (by decide) o7 (oth2 L b) _ k _ rfl r7 (offA so cs (k + 1) 64) (m - (k + 1)) (cs - (k + 1)) ((setsL xs).drop ((k + 1) * 64)) rfl (by rw [List.length_drop, setsL_len, hlx]; omega) (X7.newsLo (k + 1) hk2m) (fun u hu => setsL_one xs u (List.mem_of_mem_drop hu)) hx5 hx6 ?_))
  intro so9 cs9 w9 o9 r9 s9
  have B9 := B7.step s9 hLz
  have N9 := N7.step s9 hLq
  have u9 := u7.trans (s9.mono fun x hx => hLLb x hx)
  obtain ⟨i0, i1, hfi⟩ := B9.cells2
  have fi1 := hfi 1
  try rw [hN5] at r9
  try rw [hN5]
  have s10 := setStep (fun x => x = L) w9 o9 ⟨p, 1, none⟩ (.slice so9 m5 cs9) B9.2
  have B10 := B9.set2b (.slice so9 m5 cs9)
  have N10 := N9.step s10 hLo
  have X10 := r9.step s10 hLo2
  have u10 := u9.trans (s10.mono fun x hx => hLL0 x hx)
  have HR : Hid (∃ k, k < m ∧ NL.getD k ⟨#[]⟩ = s ∧ DropOut w2 o L p m k NL xs (.returned (.int .i64 0)) (w9.setCell ⟨p, 1, none⟩ (.slice so9 m5 cs9))) := by
    have hm5 : m5 = m - 1 := by omega
    subst hm5
    refine ⟨k, HE.out.1, HE.out.2, o9, rfl, ⟨oth L a, oth2 L b, ao5, ca5, so9, cs9, B10, ?_, ?_, q1.1, q2.1, by simp; omega, by simp; omega⟩, u10⟩
    · simpa [strsL] using N10
    · rw [setsL_app, ← setsL_take xs k (by omega), ← setsL_drop xs (k + 1) (by omega)]
      simpa using X10
  clear B9 N9 r9 s9 u9 B7 N7 X7 u7 s10 B10 N10 X10 u10 h0 h1 hfh hfi
  go_wp2
  go_ret
  exact HR.out
end Go.Proofs.YtmpkhbblakfglaaDoor
