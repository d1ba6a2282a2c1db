/- The law LexBlanks, walked. -/
import Derived.Test.YtgebhhfliphpdaaDoorLexL
namespace Go.Proofs.YtgebhhfliphpdaaDoor
open Go.ChangeShapes Go.WideShapes Go.ChangeAt Go.RowKit
set_option linter.unusedVariables false

abbrev I1 : Nat → Prop := fun k => k = 1
theorem I1_below {w wr : World} {o : Nat → Nat} (h : Step I1 w (fun _ => 0) wr o) : Below w.heap.size w wr := h.below (fun _ _ h => by cases h)
/-- The state of the first loop: the text, the tokens laid, where. -/
structure Bl (ts : List Tk) (w wr : World) (o : Nat → Nat) (T : ByteArray) (v : Value) (i : Nat) (tx : List UInt8) (xs : List Tk) : Prop where
  txt : T.data.toList = tx
  laid : Laid tx xs
  alk : Alike ts xs
  len : xs.length = i
  row : Row wr o 1 3 1 v i (intsL (xs.map Tk.a))
  size : ∀ h : i < ts.length, tx.length ≤ (ts[i]).a + 2 * i
  one : i = 0 → tx = []
  stp : Step I1 w (fun _ => 0) wr o
set_option maxRecDepth 100000 in
set_option maxHeartbeats 4000000 in
theorem blanks_walk (s : ByteArray) (ar : Option Addr) (nr cr : Nat) (f : Nat → Int) (w : World) (hs : s.size ≤ maxLen) (hI : Ints w ar nr f) (hnr : nr ≤ maxLen) (hW : Wd w) (hE : Ers w) :
    Calls Tryd.prog 5 #[.string s, .slice ar nr cr] w fun e w' => e = .returned (.bool true) ∧ Below w.heap.size w w' := by
  unfold maxLen at hnr
  have HL : Hid (s.data.toList.length = s.size) := data_len s
  go_enter Tryd.func5, Tryd.ntmps5
  go_wp2_with fail
  refine (awake_c w hW hE).mono ?_
  rintro e w1 ⟨rfl, hb1⟩
  go_wp2_with fail
  refine (scan_c s w1 (hW.below hb1) (hE.below hb1) hs).mono ?_
  rintro e w2 ⟨v2, er2, at2, rfl, ho2, hb2⟩
  have B2 := hb1.trans (hb2.mono hb1.size)
  clear hb1 hb2
  cases hR : scanA s.data.toList with
  | inl eq =>
    obtain ⟨e, q⟩ := eq
    obtain ⟨rfl, rfl, rfl⟩ := ho2.inl hR
    have he : ((e : Int) != 0) = true := by have := scan_err_pos hR; simp; omega
    have he2 : ¬ (e : Int) = 0 := by have := scan_err_pos hR; omega
    clear ho2 hR
    go_wp2
    go_ret
    exact ⟨rfl, B2⟩
  | inr ts =>
    obtain ⟨rfl, rfl, hr2⟩ := ho2.inr hR
    have hl := scan_ok hR
    rw [HL.out] at hl
    have HC := Lib.hid (scan_stands hR)
    have T2 := Tks.of hr2
    obtain ⟨ao, cap, rfl⟩ := T2.form
    obtain ⟨nT, hnT⟩ : ∃ n, n = ts.length := ⟨_, rfl⟩
    have HN := Lib.hid hnT
    have hs2 := hl.1
    have htl : nT ≤ 2001 := by rw [hnT]; exact hl.2.2.1
    have htp : 0 < nT := by rw [hnT]; exact hl.2.2.2.2.1
    have hts : nT ≤ s.size + 1 := by rw [hnT]; exact hl.2.2.2.1
    rw [← hnT] at T2 ⊢
    have HPL : Hid (∀ x, x ∈ ts → x.a ≤ s.size) := hl.2.2.2.2.2
    have htp0 : ((nT : Int) == 0) = false := by simp; omega
    have htp1 : ¬ (nT : Int) = 0 := by omega
    have hts1 : ¬ (s.size : Int) + 1 < (nT : Int) := by omega
    obtain ⟨w3, hw3⟩ : ∃ w3, w3 = w2.alloc (.cells bkA 9) := ⟨_, rfl⟩
    have b23 : Below w2.heap.size w2 w3 := by rw [hw3]; exact b1 _ _
    have hce : ∀ k, k < 6 → w3.cell? ⟨w2.heap.size, k, none⟩ = some (.string ⟨(bks k).toArray⟩) := fun k hk => by
      rw [hw3, cell_of_row _ _ _ _ _ _ (heap_alloc_new w2 _), bkA_at k hk]
    have hlt3 : w2.heap.size < w3.heap.size := by rw [hw3]; simp
    have T3 := T2.below b23
    have B3 := B2.trans (b23.mono B2.size)
    have I3' := (hI.below B3)
    have HW3 : Hid (w3 = w2.alloc (.cells bkA 9)) := hw3
    have HCE : Hid ((∀ k, k < 6 → w3.cell? ⟨w2.heap.size, k, none⟩ = some (.string ⟨(bks k).toArray⟩)) ∧ w2.heap.size < w3.heap.size ∧ Tks w3 (.slice ao nT cap) ts ∧ Ints w3 ar nr f) := ⟨hce, hlt3, T3, I3'⟩
    obtain ⟨gB, hgB⟩ : ∃ g, g = w2.heap.size := ⟨_, rfl⟩
    rw [← hgB] at HCE
    have HGB := Lib.hid hgB
    clear ho2 hr2 hR hl T2 hnT hw3 b23 hce hlt3 T3 I3' hgB
    go_upto_region 8 with fail
    rw [show w2.alloc _ = w3 from HW3.out.symm]
    rw [← HGB.out]
    clear HW3 HGB
    go_wp2_with fail
    go_loopw [10, 11, 12] (fun v10 v11 v12 wr => ∃ i T tx xs o, v10 = .string T ∧ v12 = .int .i64 (i : Nat) ∧ i + 1 ≤ nT ∧ Bl ts w3 wr o T v11 i tx xs) (fun _ _ v _ => nT - (intOf v).toNat)
    case atStart =>
      refine ⟨0, ⟨#[]⟩, [], [], fun _ => 0, rfl, by go_num, by omega, rfl, Laid.nil, Alike.nil _, rfl, Row.nil _ _ _ _ _, fun _ => by simp, fun _ => rfl, Step.refl _ _ _⟩
    case round =>
      obtain ⟨i, T, tx, xs, o, rfl, rfl, hi, J⟩ := hrel
      have Br := I1_below J.stp
      by_cases hlt : i + 1 < nT
      · have hit1 : i + 1 < ts.length := by rw [← HN.out]; exact hlt
        have hit : i < ts.length := Nat.lt_of_succ_lt hit1
        have htl2 : ts.length ≤ 2001 := by rw [← HN.out]; exact htl
        have hiI2 : (i : Int) < (nT : Int) := by omega
        have TA := HC.out.at i hit1
        obtain ⟨hce, hlt3, T3, I3'⟩ := HCE.out
        have Tr := T3.below Br
        obtain ⟨k, u, b, r, hP, hx, hd, hbl, hy, hle⟩ := TA
        rw [HL.out] at hle
        obtain ⟨g, rfl, -, -, -, c3⟩ := Tr.cells i hit
        obtain ⟨g', eg, -, -, -, d3⟩ := Tr.cells (i + 1) hit1
        injection eg with eg
        injection eg with eg _ _
        subst eg
        have hpu := hP.pos
        have hul : u.length ≤ 2000 := by omega
        have hxy : decide (((ts[i + 1]'hit1).a : Int) ≤ ((ts[i]'hit).a : Int)) = false := decide_eq_false (by omega)
        have hys : decide ((s.size : Int) < ((ts[i + 1]'hit1).a : Int)) = false := decide_eq_false (by omega)
        have hx0 : decide (((ts[i]'hit).a : Int) < 0) = false := decide_eq_false (by omega)
        have HS : Hid (∀ w', Tks w' (.slice (some ⟨g, 0, none⟩) nT cap) ts → Calls Tryd.prog 16 #[.string s, .slice (some ⟨g, 0, none⟩) nT cap, .int .i64 (i : Nat)] w' fun e w'' => e = .returned (.string ⟨u.toArray⟩) ∧ w'' = w') :=
          fun w' h' => said_c s w' _ ts i h' hit1 htl2 hs2 k u b r hP hd hbl hy hle
        have hjs := J.size hit
        -- what the round leaves, whatever blanks are laid
        have HD : Hid (∀ (bb : List UInt8), (∀ c, c ∈ bb → blk c.toNat = true) → bb.length ≤ 2 → (bb ≠ [] ∨ i = 0) → ∀ (T1 : ByteArray), T1.data.toList = tx ++ bb → ∀ w6 o6 v6, Row w6 o6 1 3 1 v6 (i + 1) (intsL (xs.map Tk.a) ++ [.int .i64 (T1.size : Nat)]) → Step I1 w3 (fun _ => 0) w6 o6 → Bl ts w3 w6 o6 (T1 ++ ⟨u.toArray⟩) v6 (i + 1) (tx ++ bb ++ u) (xs ++ [⟨(ts[i]'hit).k, (ts[i]'hit).n, (ts[i]'hit).t, (tx ++ bb).length⟩])) := by
          intro bb h1 h2 h3 T1 h4 w6 o6 v6 h5 h6
          have h7 : T1.size = (tx ++ bb).length := by rw [← data_len, h4]
          refine ⟨by rw [app_list, h4, mk_list], ?_, ?_, by simp [J.len], ?_, fun h => ?_, fun h => by omega, h6⟩
          · refine J.laid.more hP hx h1 ?_
            rcases h3 with h3 | h3
            · exact .inl h3
            · refine .inr ⟨?_, J.one h3⟩
              have := J.len
              rw [h3] at this
              exact List.eq_nil_of_length_eq_zero this
          · have h8 := J.alk.more (by rw [J.len]; exact hit) (tx ++ bb).length
            simp only [J.len] at h8
            exact h8
          · rw [List.map_append, ← h7]
            simp only [List.map_cons, List.map_nil]
            rw [intsL_more]
            exact h5
          · simp only [List.length_append]
            omega
        have HTX : Hid (T.data.toList = tx) := J.txt
        have htb : T.size ≤ 6002 := by have e1 := data_len T; rw [J.txt] at e1; omega
        have HJ := Lib.hid J
        have HTr := Lib.hid Tr
        generalize (ts[i + 1]'hit1).a = ya at *
        generalize hxa : (ts[i]'hit).a = xa at *
        have hxyN : decide (ya ≤ xa) = false := by simpa using hxy
        have hysN : decide (s.size < ya) = false := by simpa using hys
        obtain ⟨j, hj⟩ : ∃ j, j = i + 1 := ⟨_, rfl⟩
        have hwi : IntKind.i64.wrap (j : Int) = (j : Int) := by rw [IntKind.wrap_i64]; omega
        have hij : (i : Int) + 1 = (j : Int) := by omega
        have hjN : (j : Int) < (nT : Int) := by omega
        rw [← hj] at d3
        have HJJ := Lib.hid hj
        generalize hUU : (⟨u.toArray⟩ : ByteArray) = U at *
        have hUs : U.size ≤ 2000 := by rw [← hUU, mk_size]; exact hul
        clear hj hP hx hd hbl hy hle Tr hxa hUU htl2 hjs J hce hlt3 T3 I3'
        go_wp2_with fail
        go_quiet (fail)
        rename_i nq
        have S4 := (HJ.out.stp).drewN nq
        have R4 : Row (wr.drewN nq) o 1 3 1 u11 i (intsL (xs.map Tk.a)) := HJ.out.row
        clear c3 d3 hxy hys hx0 hxyN hysN
        generalize wr.drewN nq = w4 at *
        have B4 := I1_below S4
        obtain ⟨ii, hii, hz0, hz1, hz2⟩ := info_parts infoInt
        obtain ⟨hce, hlt3, T3, I3'⟩ := HCE.out
        have I4' := I3'.below B4
        have hc4 : ∀ k, k < 6 → w4.cell? ⟨gB, k, none⟩ = some (.string ⟨(bks k).toArray⟩) := fun k hk => (B4.cell (p := ⟨gB, k, none⟩) hlt3).trans (hce k hk)
        have HC4 := Lib.hid hc4
        have HI4 := Lib.hid I4'
        have HB4 : Hid (Below w3.heap.size w3 w4) := B4
        have hxl : i ≤ 2001 := by omega
        clear hce hlt3 T3 I3' I4' hc4 B4 Br
        by_cases h0 : i = 0
        · have h0I : ¬ (0 : Int) < (i : Int) := by omega
          have H0 := Lib.hid h0
          clear h0
          go_upto_region 20 with fail
          obtain ⟨T1, hT1⟩ : ∃ T1 : ByteArray, T1 = T := ⟨_, rfl⟩
          have hl1 : T1.data.toList = tx ++ [] := by rw [hT1]; rw [HTX.out]; simp
          have hs1 : T1.size ≤ 6004 := by rw [hT1]; omega
          rw [← hT1]
          have R4' := R4.step (allocStep (fun _ => False) w4 o (.cells #[.int .i64 (T1.size : Nat)] 3)) (by simp)
          have HN1 := HD.out [] (fun c hc => by cases hc) (by simp) (.inr H0.out) T1 hl1
          have HNN := Lib.hid HN1
          clear hT1 hl1 HN1
          go_wp2_with (first | (at_builtin; refine wpList_append_lab rfl (.tmp 103) (.tmp 106) 31 rfl 3 ii (.int .i64 0) 1 8 Tryd.underlying31 hii hz0 hz1 hz2 rfl (by decide) o 1 _ i (intsL (xs.map Tk.a)) rfl R4' ⟨w4.heap.size, 0, none⟩ 1 1 [.int .i64 (T1.size : Nat)] rfl rfl ?c1a ?c2a (by decide) ?c3a ?c4a ?_) | go_in)
          (try case c1a => exact new_one _ _ _)
          (try case c2a => first | rfl | (intro u hu; simp at hu; subst hu; rfl))
          (try case c3a => unfold maxLen; omega)
          (try case c4a => omega)
          intro g6 cap6 w6 o6 R6 s6'
          have S6 := (S4.trans (allocStep I1 w4 o _)).trans s6'
          have B6 := I1_below S6
          have T6 := HCE.out.2.2.1.below B6
          have JN := HNN.out w6 o6 _ R6 S6
          have HJN := Lib.hid JN
          clear R4' R6 s6' R4 S4 JN HNN
          go_wp2_with fail
          refine (HS.out w6 T6).mono ?_
          rintro e w7 ⟨rfl, rfl⟩
          clear T6
          go_wp2
          go_roundw
          case rel => (try ((repeat apply Exists.intro); refine ⟨?_, rfl⟩)); exact ⟨j, _, _, _, o6, rfl, by go_num, by omega, by rw [HJJ.out]; exact HJN.out⟩
          case measure => have := HJJ.out; simp [intOf]; omega
        · have h0I : (0 : Int) < (i : Int) := by omega
          by_cases hn0 : nr = 0
          · have hn0I : ¬ (0 : Int) < (nr : Int) := by omega
            clear hn0
            have hb0 := HC4.out 0 (by omega)
            obtain ⟨BB, hBB⟩ : ∃ BB : ByteArray, BB = ⟨(bks 0).toArray⟩ := ⟨_, rfl⟩
            rw [← hBB] at hb0
            have hbs : BB.size ≤ 2 := by rw [hBB, mk_size]; exact (bks_ok 0).2.2
            have HBB := Lib.hid hBB
            clear hBB
            go_upto_region 20 with fail
            obtain ⟨T1, hT1⟩ : ∃ T1 : ByteArray, T1 = T ++ BB := ⟨_, rfl⟩
            have hl1 : T1.data.toList = tx ++ (bks 0) := by rw [hT1]; rw [app_list, HTX.out, HBB.out, mk_list]
            have hs1 : T1.size ≤ 6004 := by rw [hT1]; rw [app_size]; omega
            rw [← hT1]
            have R4' := R4.step (allocStep (fun _ => False) w4 o (.cells #[.int .i64 (T1.size : Nat)] 3)) (by simp)
            have HN1 := HD.out (bks 0) (bks_ok 0).1 (bks_ok 0).2.2 (.inl (bks_ok 0).2.1) T1 hl1
            have HNN := Lib.hid HN1
            clear hT1 hl1 HN1
            go_wp2_with (first | (at_builtin; refine wpList_append_lab rfl (.tmp 103) (.tmp 106) 31 rfl 3 ii (.int .i64 0) 1 8 Tryd.underlying31 hii hz0 hz1 hz2 rfl (by decide) o 1 _ i (intsL (xs.map Tk.a)) rfl R4' ⟨w4.heap.size, 0, none⟩ 1 1 [.int .i64 (T1.size : Nat)] rfl rfl ?c1b ?c2b (by decide) ?c3b ?c4b ?_) | go_in)
            (try case c1b => exact new_one _ _ _)
            (try case c2b => first | rfl | (intro u hu; simp at hu; subst hu; rfl))
            (try case c3b => unfold maxLen; omega)
            (try case c4b => omega)
            intro g6 cap6 w6 o6 R6 s6'
            have S6 := (S4.trans (allocStep I1 w4 o _)).trans s6'
            have B6 := I1_below S6
            have T6 := HCE.out.2.2.1.below B6
            have JN := HNN.out w6 o6 _ R6 S6
            have HJN := Lib.hid JN
            clear R4' R6 s6' R4 S4 JN HNN
            go_wp2_with fail
            refine (HS.out w6 T6).mono ?_
            rintro e w7 ⟨rfl, rfl⟩
            clear T6
            go_wp2
            go_roundw
            case rel => (try ((repeat apply Exists.intro); refine ⟨?_, rfl⟩)); exact ⟨j, _, _, _, o6, rfl, by go_num, by omega, by rw [HJJ.out]; exact HJN.out⟩
            case measure => have := HJJ.out; simp [intOf]; omega
          · have hn0I : (0 : Int) < (nr : Int) := by omega
            have hmod : i % nr < nr := Nat.mod_lt _ (by omega)
            obtain ⟨br, off, rfl, -, hcr, hf1, hf2⟩ := HI4.out (i % nr) hmod
            have htm : (i : Int).tmod (nr : Int) = ((i % nr : Nat) : Int) := by have := tmod_toNat (i : Int) nr (by omega); simpa using this
            have n1 : ¬ (nr : Int) = 0 := by omega
            have n2 : ¬ (nr : Int) = -1 := by omega
            have n3 : ((nr : Int) == 0) = false := by simpa using n1
            have hpk := pk_lt (f (i % nr)) 6 (by omega)
            generalize f (i % nr) = fv at *
            generalize i % nr = im at *
            have hmI : (im : Int) < (nr : Int) := by omega
            have hwm : IntKind.i64.wrap (im : Int) = (im : Int) := by rw [IntKind.wrap_i64]; omega
            obtain ⟨kk, hkk⟩ : ∃ kk, kk = pk fv 6 := ⟨_, rfl⟩
            have hk6 : kk < 6 := by omega
            have hk6I : (kk : Int) < 6 := by omega
            have hb0 := HC4.out kk hk6
            obtain ⟨BB, hBB⟩ : ∃ BB : ByteArray, BB = ⟨(bks kk).toArray⟩ := ⟨_, rfl⟩
            rw [← hBB] at hb0
            have hbs : BB.size ≤ 2 := by rw [hBB, mk_size]; exact (bks_ok kk).2.2
            have HBB := Lib.hid hBB
            clear hBB hmod
            go_wp2_with fail
            refine (pick_c fv 6 _ hf1 hf2 (by omega) (by omega)).mono ?_
            rw [← hkk]
            rintro e w5 ⟨rfl, hw5⟩
            have hw4 := hw5.symm
            subst hw4
            clear hkk
            go_upto_region 20 with fail
            obtain ⟨T1, hT1⟩ : ∃ T1 : ByteArray, T1 = T ++ BB := ⟨_, rfl⟩
            have hl1 : T1.data.toList = tx ++ (bks kk) := by rw [hT1]; rw [app_list, HTX.out, HBB.out, mk_list]
            have hs1 : T1.size ≤ 6004 := by rw [hT1]; rw [app_size]; omega
            rw [← hT1]
            have R4' := R4.step (allocStep (fun _ => False) w4 o (.cells #[.int .i64 (T1.size : Nat)] 3)) (by simp)
            have HN1 := HD.out (bks kk) (bks_ok kk).1 (bks_ok kk).2.2 (.inl (bks_ok kk).2.1) T1 hl1
            have HNN := Lib.hid HN1
            clear hT1 hl1 HN1
            go_wp2_with (first | (at_builtin; refine wpList_append_lab rfl (.tmp 103) (.tmp 106) 31 rfl 3 ii (.int .i64 0) 1 8 Tryd.underlying31 hii hz0 hz1 hz2 rfl (by decide) o 1 _ i (intsL (xs.map Tk.a)) rfl R4' ⟨w4.heap.size, 0, none⟩ 1 1 [.int .i64 (T1.size : Nat)] rfl rfl ?c1d ?c2d (by decide) ?c3d ?c4d ?_) | go_in)
            (try case c1d => exact new_one _ _ _)
            (try case c2d => first | rfl | (intro u hu; simp at hu; subst hu; rfl))
            (try case c3d => unfold maxLen; omega)
            (try case c4d => omega)
            intro g6 cap6 w6 o6 R6 s6'
            have S6 := (S4.trans (allocStep I1 w4 o _)).trans s6'
            have B6 := I1_below S6
            have T6 := HCE.out.2.2.1.below B6
            have JN := HNN.out w6 o6 _ R6 S6
            have HJN := Lib.hid JN
            clear R4' R6 s6' R4 S4 JN HNN
            go_wp2_with fail
            refine (HS.out w6 T6).mono ?_
            rintro e w7 ⟨rfl, rfl⟩
            clear T6
            go_wp2
            go_roundw
            case rel => (try ((repeat apply Exists.intro); refine ⟨?_, rfl⟩)); exact ⟨j, _, _, _, o6, rfl, by go_num, by omega, by rw [HJJ.out]; exact HJN.out⟩
            case measure => have := HJJ.out; simp [intOf]; omega
      · have hiN : i + 1 = nT := by omega
        have hiI : ¬ (i : Int) + 1 < (nT : Int) := by omega
        have hTl := data_len T
        rw [J.txt] at hTl
        have hjs := J.size (by rw [← HN.out]; omega)
        have hpl := HPL.out (ts[i]'(by rw [← HN.out]; omega)) (List.getElem_mem _)
        have htb : T.size ≤ 6002 := by omega
        by_cases hbig : 2000 < T.size
        · have hbI : (2000 : Int) < (T.size : Int) := by omega
          have Bw := B3.trans (Br.mono B3.size)
          clear J hTl hjs hpl Br hiN
          go_wp2
          go_ret
          exact ⟨rfl, Bw⟩
        · have hbI : ¬ (2000 : Int) < (T.size : Int) := by omega
          have hsc : scanA T.data.toList = .inr (xs ++ [⟨0, 0, [], T.size⟩]) := by
            rw [J.txt, scan_short (by omega), J.laid.whole, hTl]
          have HSC := Lib.hid hsc
          have HJ := Lib.hid J
          have Bw := B3.trans (Br.mono B3.size)
          have Wr := hW.below Bw
          have Er := hE.below Bw
          have HIN := Lib.hid hiN
          have hnm1 : (nT : Int) - 1 = (i : Int) := by omega
          have hiT : (i : Int) < (nT : Int) := by omega
          have hi2 : i ≤ 2001 := by omega
          clear J hTl hjs hpl hsc hiN
          go_wp2_with fail
          refine (scan_c T wr Wr Er (by unfold maxLen; omega)).mono ?_
          rintro e w5 ⟨v5, er5, at5, rfl, ho5, hb5⟩
          obtain ⟨rfl, rfl, hr5⟩ := ho5.inr HSC.out
          have T5 := Tks.of hr5
          obtain ⟨ms, hms⟩ : ∃ ms, ms = xs ++ [Tk.mk 0 0 [] T.size] := ⟨_, rfl⟩
          rw [← hms] at T5
          have hml : ms.length = nT := by rw [hms]; simp [HJ.out.len]; exact HIN.out
          have HMS := Lib.hid hms
          obtain ⟨ao5, cap5, rfl⟩ := T5.form
          rw [hml] at T5 ⊢
          obtain ⟨g5, rfl, -, -, -, e3⟩ := T5.cells i (by rw [hml]; have := HIN.out; omega)
          have hla : (ms[i]'(by rw [hml]; have := HIN.out; omega)).a = T.size := by
            subst hms
            have e1 := HJ.out.len
            rw [List.getElem_append_right (by omega)]
            simp [e1]
          rw [hla] at e3
          have B5 := Bw.trans (hb5.mono Bw.size)
          have R5 := HJ.out.row.step (Step.ofBelow (I := fun _ => False) o hb5) (by simp)
          have B35 := Br.trans (hb5.mono Br.size)
          have HT5 : Hid (Tks w5 (.slice (some ⟨g5, 0, none⟩) nT cap5) ms ∧ Tks w5 (.slice ao nT cap) ts) := ⟨T5, HCE.out.2.2.1.below B35⟩
          have HML := Lib.hid hml
          have HR5 := Lib.hid R5
          clear ho5 hr5 T5 hms hla Wr Er Br Bw hb5 R5 B35 hml
          obtain ⟨vp, hvp⟩ : ∃ vp, vp = u11 := ⟨_, rfl⟩
          go_wp2_with fail
          clear e3 hvp
          go_loopw [17] (fun v wr2 => ∃ j : Nat, v = .int .i64 (j : Nat) ∧ j ≤ 2001 ∧ Below w5.heap.size w5 wr2) (fun v _ => nT - (intOf v).toNat)
          case atStart => exact ⟨0, by go_num, by omega, b0 _⟩
          case round =>
            obtain ⟨q, rfl, hq, hbq⟩ := hrel
            by_cases hqn : q + 1 < nT
            · have hqI : (q : Int) + 1 < (nT : Int) := by omega
              have hqT : (q : Int) < (nT : Int) := by omega
              have hqi : q < i := by have := HIN.out; omega
              have hqx : q < xs.length := by rw [HJ.out.len]; exact hqi
              obtain ⟨T5, T6⟩ := HT5.out
              obtain ⟨g6, e6, p0, p1, p2, p3⟩ := (T5.below hbq).cells q (by rw [HML.out]; omega)
              injection e6 with e6
              injection e6 with e6 _ _
              subst e6
              obtain ⟨g7, rfl, q0, q1, q2, -⟩ := (T6.below hbq).cells q (by rw [← HN.out]; omega)
              have R6 := HR5.out.step (Step.ofBelow (I := fun _ => False) o hbq) (by simp)
              obtain ⟨gp, cp, rfl, _, hpc, hpm, _, hcp, _⟩ := R6.pos (by omega)
              have hcq := hcp q (by omega)
              rw [intsL_get _ q (by simpa using hqx)] at hcq
              simp only [List.getElem_map] at hcq
              obtain ⟨hqt, a1, a2, a3⟩ := HJ.out.alk q hqx
              have hme : ms[q]'(by rw [HML.out]; omega) = xs[q]'hqx := by
                have e1 := HMS.out
                subst e1
                rw [List.getElem_append_left hqx]
              rw [hme, a1] at p0
              rw [hme, a2] at p1
              rw [hme, a3] at p2
              rw [hme] at p3
              generalize (ts[q]'hqt).k = xk at *
              generalize (ts[q]'hqt).n = xn at *
              generalize (⟨(ts[q]'hqt).t.toArray⟩ : ByteArray) = tX at *
              generalize (xs[q]'hqx).a = xa at *
              have hqI2 : (q : Int) < (i : Int) := by omega
              unfold maxLen at hpm
              clear hcp hme a1 a2 a3 R6 T5 T6 hqx
              go_wp2_with fail
              go_quiet (fail)
              go_wp2
              go_roundw
              case rel => (try ((repeat apply Exists.intro); refine ⟨?_, rfl⟩)); exact ⟨q + 1, by go_num, by omega, bdr hbq _⟩
              case measure => simp [intOf]; omega
            · have hqI : ¬ (q : Int) + 1 < (nT : Int) := by omega
              go_wp2
              go_ret
              exact ⟨rfl, B5.trans (hbq.mono B5.size)⟩
end Go.Proofs.YtgebhhfliphpdaaDoor
