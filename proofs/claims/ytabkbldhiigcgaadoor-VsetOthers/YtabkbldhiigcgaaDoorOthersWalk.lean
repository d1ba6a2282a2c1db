/- The law VsetOthers, walked: a set and all others. -/
import Derived.Test.YtabkbldhiigcgaaDoorBoxes
namespace Go.Proofs.YtabkbldhiigcgaaDoor
open Go.ChangeShapes Go.WideShapes Go.ChangeAt Go.RowKit Go.Maps
set_option linter.unusedVariables false

theorem five_below {w wx wy : World} {p q r s t a b c d e : Nat} (h : Box wx p a ∧ Box wx q b ∧ Box wx r c ∧ Box wx s d ∧ Box wx t e ∧ Below w.heap.size w wx) (k : Below wx.heap.size wx wy) :
    Box wy p a ∧ Box wy q b ∧ Box wy r c ∧ Box wy s d ∧ Box wy t e ∧ Below w.heap.size w wy :=
  ⟨h.1.below k, h.2.1.below k, h.2.2.1.below k, h.2.2.2.1.below k, h.2.2.2.2.1.below k, bjoin h.2.2.2.2.2 k⟩
theorem five_cells {w wx : World} {p q r s t a b c d e : Nat} (h : Box wx p a ∧ Box wx q b ∧ Box wx r c ∧ Box wx s d ∧ Box wx t e ∧ Below w.heap.size w wx) :
    wx.cell? ⟨p, 0, none⟩ = some (.int .u64 (a : Nat)) ∧ wx.cell? ⟨q, 0, none⟩ = some (.int .u64 (b : Nat)) ∧ wx.cell? ⟨r, 0, none⟩ = some (.int .u64 (c : Nat)) ∧ wx.cell? ⟨s, 0, none⟩ = some (.int .u64 (d : Nat)) ∧ wx.cell? ⟨t, 0, none⟩ = some (.int .u64 (e : Nat)) :=
  ⟨h.1.1, h.2.1.1, h.2.2.1.1, h.2.2.2.1.1, h.2.2.2.2.1.1⟩
set_option maxHeartbeats 8000000 in
set_option maxRecDepth 100000 in
theorem others_walk (w : World) (a0 : Option Addr) (n0 c0 : Nat) (f0 : Nat → Int) (n : Int) (h0 : Ints w a0 n0 f0) (m0 : n0 ≤ maxLen)
    (hn1 : -9223372036854775808 ≤ n) (hn2 : n ≤ 9223372036854775807) (hT : Tz w) (hW : Wd w) :
    Calls Tryd.prog 8 #[.slice a0 n0 c0, .int .i64 n] w fun e w' => e = .returned (.bool true) ∧ Below w.heap.size w w' := by
  go_enter Tryd.func8, Tryd.ntmps8
  go_wp2_with fail
  refine (awake_c w hT hW).mono ?_
  rintro e w1 ⟨rfl, hb1⟩
  have s1 : Step (fun k => k = 1) w z9 w1 z9 := Step.ofBelow z9 hb1
  have old : ∀ k, k < w.heap.size → ¬ (z9 k = 1) := fun k _ h => by simp [z9] at h
  clear hb1 hT hW
  go_upto_block 0 with fail
  go_cut [6] (fun v6 wx => ∃ o', Row wx o' 1 3 1 v6 64 (intsL (downL 64)) ∧ Step (fun k => k = 1) w z9 wx o')
  case first =>
    go_wp2_with fail
    go_loopw [6, 7] (fun v6 v7 wr => ∃ (k : Nat) (o' : Nat → Nat), k ≤ 64 ∧ v7 = .int .i64 (63 - (k : Int)) ∧ Row wr o' 1 3 1 v6 k (intsL (downL k)) ∧ Step (fun k => k = 1) w z9 wr o') (fun _ v7 _ => (intOf v7 + 1).toNat)
    case atStart => exact ⟨0, z9, by omega, by go_num, Row.nil _ _ _ _ _, s1⟩
    case round =>
      obtain ⟨k, o', hk, rfl, hR, hS⟩ := hrel
      clear s1
      by_cases hlt : k < 64
      · have g1 : (0 : Int) ≤ 63 - (k : Int) := by omega
        have hnx : downL (k + 1) = downL k ++ [63 - k] := rfl
        have HNX : Hid (downL (k + 1) = downL k ++ [63 - k]) := hnx
        obtain ⟨m, hm⟩ : ∃ m : Nat, (63 - (k : Int)) = (m : Int) := ⟨63 - k, by omega⟩
        have HM : Hid (63 - k = m) := by show _ = _; omega
        have hmI : IntKind.i64.wrap ((m : Int) - 1) = (m : Int) - 1 := by rw [IntKind.wrap_i64]; omega
        have HM2 : Hid ((m : Int) = 63 - (k : Int)) := hm.symm
        have hm0 : (0 : Int) ≤ (m : Int) := by omega
        rw [hm]
        clear hnx hm g1
        obtain ⟨ii, hii, hzi0, hzi1, hzi2⟩ := info_parts infoInt
        go_wp2_with (first | (at_builtin; refine wpList_append_lab rfl (.tmp 22) (.tmp 24) 37 rfl 3 ii (.int .i64 0) 1 8 Tryd.underlying37 hii hzi0 hzi1 hzi2 rfl (by decide) o' 1 _ k (intsL (downL k)) rfl (hR.step (allocStep (fun _ => False) _ o' _) (by simp)) ⟨wr.heap.size, 0, none⟩ 1 1 [.int .i64 (m : Nat)] rfl rfl ?c1 ?c2 (by decide) ?c3 ?c4 ?_) | go_in)
        case c1 => exact new_one _ _ _
        case c2 => intro u hu; simp at hu; subst hu; rfl
        case c3 => unfold maxLen; omega
        case c4 => omega
        intro g cap3 w3 o3 R3 s3'
        have s3 : Step (fun k => k = 1) wr o' w3 o3 := (allocStep _ wr o' _).trans s3'
        have S3 := hS.trans s3
        have R4 : Row w3 o3 1 3 1 (.slice (some ⟨g, 0, none⟩) (k + 1) cap3) (k + 1) (intsL (downL (k + 1))) := by
          rw [HNX.out, HM.out]
          simpa [intsL] using R3
        clear s3' hR hS s3 R3 HNX HM
        go_wp2
        go_roundw
        case rel => (try ((repeat apply Exists.intro); refine ⟨?_, rfl⟩)); exact ⟨k + 1, o3, by omega, by rw [HM2.out]; congr 1; omega, R4, S3⟩
        case measure => rw [HM2.out]; simp [intOf]; omega
      · obtain rfl : k = 64 := by omega
        go_wp2
        go_meet
        exact ⟨o', hR, hS⟩
  case rest =>
  clear s1
  obtain ⟨o', hR, hS⟩ := hcut
  rw [← downL_len 64] at hR
  obtain ⟨a3, c3, rfl, hI⟩ := hR.ints (fun x hx => by obtain ⟨j, h1, h2⟩ := (downL_mem x 64).1 hx; omega)
  have B1 := hS.below old
  have OO : Hid (∀ s er, OfOut (fun j => ((downL 64).getD j 0 : Nat)) (downL 64).length s er → s = fu ∧ er = 0) := fun s er ho => by
    obtain ⟨h1, h2, h3⟩ := OfOut.list (fun x hx => by obtain ⟨j, h1, h2⟩ := (downL_mem x 64).1 hx; omega) ho
    exact ⟨downL_full h2 h3, h1⟩
  have hof := of_c wc a3 (downL 64).length c3 _ hI (by rw [downL_len]; unfold maxLen; omega)
  rw [downL_len] at hof OO
  obtain ⟨w2, rfl⟩ : ∃ x, x = wc := ⟨_, rfl⟩
  clear hR hI hS old
  have BB := B1
  clear B1
  go_wp2_with fail
  refine hof.mono ?_
  rintro e v1 ⟨x, er, rfl, hO, gA⟩
  obtain ⟨hxf, rfl⟩ := OO.out x er hO
  have HX : Hid (x = fu) := hxf
  clear OO hO hof hxf
  have gN := bal gA (.cells #[.int .u64 (x : Nat)] 27)
  have BB := bjoin BB gN
  have Xp8 := Box.new v1 x 27
  obtain ⟨p8, hq⟩ : ∃ p, p = v1.heap.size := ⟨_, rfl⟩
  have HQ : Hid (p8 = v1.heap.size) := hq
  rw [← hq] at Xp8
  obtain ⟨w3, hw⟩ : ∃ v, v = v1.alloc (.cells #[.int .u64 (x : Nat)] 27) := ⟨_, rfl⟩
  rw [← hw] at BB Xp8
  have kp8 := Xp8.1
  clear hq gN gA
  go_upto_region 8 with fail
  rw [← hw, ← HQ.out]
  clear hw HQ
  have kp8 := Xp8.1
  have I3 := h0.below BB (Nat.le_refl _)
  go_wp2_with fail
  refine (ofl_c w3 a0 n0 c0 f0 I3 m0).mono ?_
  rintro e v2 ⟨s, rfl, hs0, gA⟩
  have hs := hs0.1
  clear hs0 I3 h0 m0
  have gN := bal gA (.cells #[.int .u64 (s : Nat)] 27)
  have Xp8 := Xp8.below gN
  have BB := bjoin BB gN
  have Xp10 := Box.new v2 s 27
  obtain ⟨p10, hq⟩ : ∃ p, p = v2.heap.size := ⟨_, rfl⟩
  have HQ : Hid (p10 = v2.heap.size) := hq
  rw [← hq] at Xp10
  obtain ⟨w4, hw⟩ : ∃ v, v = v2.alloc (.cells #[.int .u64 (s : Nat)] 27) := ⟨_, rfl⟩
  rw [← hw] at BB Xp8 Xp10
  have kp10 := Xp10.1
  clear hq gN gA
  go_upto_region 9 with fail
  rw [← hw, ← HQ.out]
  clear hw HQ
  have kp8 := Xp8.1
  have kp10 := Xp10.1
  have hxl : x < top64 := by rw [HX.out]; exact fu_lt
  have exc : cd x = 64 := by rw [HX.out]; exact fu_cd
  have ht : mns x s < top64 := mns_lt hxl
  have mc := fun w => minus_c x s w hxl hs
  have ex1 : s ||| mns x s = x := by rw [HX.out]; exact oth_or s hs
  have ex2 : s &&& mns x s = 0 := by rw [HX.out]; exact oth_and s hs
  have ex3 : mns x (mns x s) = s := by rw [HX.out]; exact oth_oth s hs
  have ex4 : ∀ m, m < 64 → mns x (s ||| bt m) = mns (mns x s) (bt m) := fun m hm => by rw [HX.out]; exact oth_with s m hs hm
  have ex5 : cd s + cd (mns x s) = 64 := by rw [HX.out]; exact oth_cd s hs
  have ex6 : ∀ i, i < 64 → (mns x s).testBit i = !s.testBit i := fun i hi => by rw [HX.out]; exact oth_bit s hs i hi
  clear HX
  generalize mns x s = t at *
  go_wp2_with fail
  refine (mc w4).mono ?_
  rintro e v3 ⟨rfl, gA⟩
  have gN := bal gA (.cells #[.int .u64 (t : Nat)] 27)
  have Xp8 := Xp8.below gN
  have Xp10 := Xp10.below gN
  have BB := bjoin BB gN
  have Xp11 := Box.new v3 t 27
  obtain ⟨p11, hq⟩ : ∃ p, p = v3.heap.size := ⟨_, rfl⟩
  have HQ : Hid (p11 = v3.heap.size) := hq
  rw [← hq] at Xp11
  obtain ⟨w5, hw⟩ : ∃ v, v = v3.alloc (.cells #[.int .u64 (t : Nat)] 27) := ⟨_, rfl⟩
  rw [← hw] at BB Xp8 Xp10 Xp11
  have kp11 := Xp11.1
  clear hq gN gA
  go_upto_region 10 with fail
  rw [← hw, ← HQ.out]
  clear hw HQ
  have kp8 := Xp8.1
  have kp10 := Xp10.1
  have kp11 := Xp11.1
  go_wp2_with fail
  refine (pick_c n 64 w5 hn1 hn2 (by omega) (by omega)).mono ?_
  rintro e w6 ⟨rfl, rfl⟩
  have hm := pk_lt n 64 (by omega)
  generalize pk n 64 = m at hm
  have ex4 := ex4 m hm
  have wy := fun w => with_yes s m w hs hm
  have wo := fun w => without_yes t m w ht hm
  have ha := or_lt hs (bt_lt hm)
  clear hn1 hn2 mc
  generalize s ||| bt m = sa at *
  generalize mns t (bt m) = tb at *
  go_wp2_with fail
  refine (wy w6).mono ?_
  rintro e v4 ⟨rfl, gA⟩
  have gN := bal gA (.cells #[.int .u64 (sa : Nat)] 27)
  have Xp8 := Xp8.below gN
  have Xp10 := Xp10.below gN
  have Xp11 := Xp11.below gN
  have BB := bjoin BB gN
  have Xp12 := Box.new v4 sa 27
  obtain ⟨p12, hq⟩ : ∃ p, p = v4.heap.size := ⟨_, rfl⟩
  have HQ : Hid (p12 = v4.heap.size) := hq
  rw [← hq] at Xp12
  obtain ⟨w7, hw⟩ : ∃ v, v = v4.alloc (.cells #[.int .u64 (sa : Nat)] 27) := ⟨_, rfl⟩
  rw [← hw] at BB Xp8 Xp10 Xp11 Xp12
  have kp12 := Xp12.1
  clear hq gN gA
  go_upto_region 12 with fail
  rw [← hw, ← HQ.out]
  clear hw HQ
  have kp8 := Xp8.1
  have kp10 := Xp10.1
  have kp11 := Xp11.1
  have kp12 := Xp12.1
  go_wp2_with fail
  refine (wo w7).mono ?_
  rintro e v5 ⟨rfl, gA⟩
  have gN := bal gA (.cells #[.int .u64 (tb : Nat)] 27)
  have Xp8 := Xp8.below gN
  have Xp10 := Xp10.below gN
  have Xp11 := Xp11.below gN
  have Xp12 := Xp12.below gN
  have BB := bjoin BB gN
  have Xp14 := Box.new v5 tb 27
  obtain ⟨p14, hq⟩ : ∃ p, p = v5.heap.size := ⟨_, rfl⟩
  have HQ : Hid (p14 = v5.heap.size) := hq
  rw [← hq] at Xp14
  obtain ⟨w8, hw⟩ : ∃ v, v = v5.alloc (.cells #[.int .u64 (tb : Nat)] 27) := ⟨_, rfl⟩
  rw [← hw] at BB Xp8 Xp10 Xp11 Xp12 Xp14
  have kp14 := Xp14.1
  clear hq gN gA
  go_upto_region 13 with fail
  rw [← hw, ← HQ.out]
  clear hw HQ
  have kp8 := Xp8.1
  have kp10 := Xp10.1
  have kp11 := Xp11.1
  have kp12 := Xp12.1
  have kp14 := Xp14.1
  have J0 : Box w8 p8 x ∧ Box w8 p10 s ∧ Box w8 p11 t ∧ Box w8 p12 sa ∧ Box w8 p14 tb ∧ Below w.heap.size w w8 := ⟨Xp8, Xp10, Xp11, Xp12, Xp14, BB⟩
  clear Xp8 Xp10 Xp11 Xp12 Xp14 BB kp8 kp10 kp11 kp12 kp14 wy wo
  have HE := hid_and ex1 (And.intro ex2 (And.intro ex3 (And.intro ex4 (And.intro ex5 exc))))
  clear ex1 ex2 ex3 ex4 ex5 exc
  go_wp2_with fail
  go_loopw [16] (fun v wr => ∃ k : Nat, k ≤ 64 ∧ v = .int .i64 (k : Nat) ∧ Box wr p8 x ∧ Box wr p10 s ∧ Box wr p11 t ∧ Box wr p12 sa ∧ Box wr p14 tb ∧ Below w.heap.size w wr) (fun v _ => 64 - (intOf v).toNat)
  case atStart => exact ⟨0, by omega, by go_num, J0⟩
  case round =>
    obtain ⟨k, hk, rfl, X8, X10, X11, X12, X14, BB⟩ := hrel
    clear J0
    by_cases hlt : k < 64
    · clear HE
      have hkI : (k : Int) < 64 := by omega
      have h6 := ex6 k hlt
      have hH : ∀ y, y < top64 → ∀ w, Calls Tryd.prog 19 #[sv y, .int .i64 (k : Nat)] w fun e w' => e = .returned (.bool (y.testBit k)) ∧ Below w.heap.size w w' := fun y hy w => has_yes y k w hy hlt
      have ky : wr.cell? ⟨p10, 0, none⟩ = some (.int .u64 (s : Nat)) ∧ wr.cell? ⟨p11, 0, none⟩ = some (.int .u64 (t : Nat)) := ⟨X10.1, X11.1⟩
      have kz : wr.drew.cell? ⟨p10, 0, none⟩ = some (.int .u64 (s : Nat)) ∧ wr.drew.cell? ⟨p11, 0, none⟩ = some (.int .u64 (t : Nat)) := ky
      have Y10 : Box wr.drew p10 s := X10
      have Y11 : Box wr.drew p11 t := X11
      have GG : Below wr.heap.size wr wr.drew := (b0 wr).drew
      cases hsb : s.testBit k
      all_goals
        rw [hsb] at h6
        simp only [Bool.not_false, Bool.not_true] at h6
        go_wp2_with fail
        go_region_held (fun wx => wx.cell? ⟨p10, 0, none⟩ = some (.int .u64 (s : Nat)) ∧ wx.cell? ⟨p11, 0, none⟩ = some (.int .u64 (t : Nat))) (first | (with_reducible exact ky) | (with_reducible exact kz)) ((go_at_call 19; refine (hH _ (by first | exact hs | exact ht) _).mono ?_; rintro e wn ⟨rfl, hbn⟩; have Y10 := Y10.below hbn; have Y11 := Y11.below hbn; have kz := And.intro Y10.1 Y11.1; have GG := bjoin GG hbn))
        have RR : Box wn p8 x ∧ Box wn p10 s ∧ Box wn p11 t ∧ Box wn p12 sa ∧ Box wn p14 tb ∧ Below w.heap.size w wn := ⟨X8.below GG, Y10, Y11, X12.below GG, X14.below GG, bjoin BB GG⟩
        clear hH ky kz Y10 Y11 GG X8 X10 X11 X12 X14 BB
        go_wp2
        go_roundw
        case rel => (try ((repeat apply Exists.intro); refine ⟨?_, rfl⟩)); exact ⟨k + 1, by omega, by go_num, RR⟩
        case measure => simp [intOf]; omega
    · obtain rfl : k = 64 := by omega
      obtain ⟨ex1, ex2, ex3, ex4, ex5, exc⟩ := HE.out
      clear HE ex6
      have ex7 : IntKind.i64.wrap ((cd s : Int) + (cd t : Int)) = 64 := by rw [IntKind.wrap_i64]; omega
      have hU := fun w => union_c s t w hs ht
      have hM := fun w => meet_c s t w hs ht
      have hN : ∀ x' y, x' < top64 ∧ y < top64 → ∀ w, Calls Tryd.prog 17 #[sv x', sv y] w fun e w' => e = .returned (sv (mns x' y)) ∧ Below w.heap.size w w' := fun x y h w => minus_c x y w h.1 h.2
      have hL : ∀ x', x' < top64 → ∀ w, Calls Tryd.prog 18 #[sv x'] w fun e w' => e = .returned (.int .i64 (cd x')) ∧ Below w.heap.size w w' := fun x h w => len_c x w h
      have ky : wr.cell? ⟨p8, 0, none⟩ = some (.int .u64 (x : Nat)) ∧ wr.cell? ⟨p10, 0, none⟩ = some (.int .u64 (s : Nat)) ∧ wr.cell? ⟨p11, 0, none⟩ = some (.int .u64 (t : Nat)) ∧ wr.cell? ⟨p12, 0, none⟩ = some (.int .u64 (sa : Nat)) ∧ wr.cell? ⟨p14, 0, none⟩ = some (.int .u64 (tb : Nat)) := ⟨X8.1, X10.1, X11.1, X12.1, X14.1⟩
      have kz : wr.drew.cell? ⟨p8, 0, none⟩ = some (.int .u64 (x : Nat)) ∧ wr.drew.cell? ⟨p10, 0, none⟩ = some (.int .u64 (s : Nat)) ∧ wr.drew.cell? ⟨p11, 0, none⟩ = some (.int .u64 (t : Nat)) ∧ wr.drew.cell? ⟨p12, 0, none⟩ = some (.int .u64 (sa : Nat)) ∧ wr.drew.cell? ⟨p14, 0, none⟩ = some (.int .u64 (tb : Nat)) := ky
      have TT : Box wr.drew p8 x ∧ Box wr.drew p10 s ∧ Box wr.drew p11 t ∧ Box wr.drew p12 sa ∧ Box wr.drew p14 tb ∧ Below w.heap.size w wr.drew := ⟨X8, X10, X11, X12, X14, BB.drew⟩
      clear X8 X10 X11 X12 X14 BB
      go_wp2_with fail
      go_region_held (fun wx => wx.cell? ⟨p8, 0, none⟩ = some (.int .u64 (x : Nat)) ∧ wx.cell? ⟨p10, 0, none⟩ = some (.int .u64 (s : Nat)) ∧ wx.cell? ⟨p11, 0, none⟩ = some (.int .u64 (t : Nat)) ∧ wx.cell? ⟨p12, 0, none⟩ = some (.int .u64 (sa : Nat)) ∧ wx.cell? ⟨p14, 0, none⟩ = some (.int .u64 (tb : Nat))) (first | (with_reducible exact ky) | (with_reducible exact kz)) (first | (go_at_call 18; refine (hL _ (by first | exact hs | exact ht | exact hxl) _).mono ?_; rintro e wn ⟨rfl, hbn⟩; have TT := five_below TT hbn; have kz := five_cells TT) | (go_at_call 16; refine (hU _).mono ?_; rintro e wn ⟨rfl, hbn⟩; have TT := five_below TT hbn; have kz := five_cells TT) | (go_at_call 15; refine (hM _).mono ?_; rintro e wn ⟨rfl, hbn⟩; have TT := five_below TT hbn; have kz := five_cells TT) | (go_at_call 17; refine (hN _ _ ⟨by exact hxl, by first | exact ht | exact ha⟩ _).mono ?_; rintro e wn ⟨rfl, hbn⟩; have TT := five_below TT hbn; have kz := five_cells TT))
      have RR := TT.2.2.2.2.2
      clear hU hM hN hL ky kz TT
      go_wp2
      go_ret
      exact ⟨rfl, RR⟩
end Go.Proofs.YtabkbldhiigcgaaDoor
