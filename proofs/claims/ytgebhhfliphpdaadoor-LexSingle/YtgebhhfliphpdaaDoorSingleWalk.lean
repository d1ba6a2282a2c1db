/- The law LexSingle, walked. -/
import Derived.Test.YtgebhhfliphpdaaDoorLexD
namespace Go.Proofs.YtgebhhfliphpdaaDoor
open Go.ChangeShapes Go.WideShapes Go.ChangeAt Go.RowKit
set_option linter.unusedVariables false

theorem cell_lt {w : World} {b i : Nat} {v : Value} (h : w.cell? ⟨b, i, none⟩ = some v) : b < w.heap.size := by
  by_cases hb : b < w.heap.size
  · exact hb
  · have h2 : w.heap[b]? = none := Array.getElem?_eq_none (by omega)
    simp [World.cell?, h2] at h
set_option maxRecDepth 100000 in
set_option maxHeartbeats 4000000 in
theorem single_walk (s : ByteArray) (w : World) (hs : s.size ≤ maxLen) (hW : Wd w) (hE : Ers w) :
    Calls Tryd.prog 8 #[.string s] w fun e w' => e = .returned (.bool true) ∧ Below w.heap.size w w' := by
  have HL : Hid (s.data.toList.length = s.size) := data_len s
  go_enter Tryd.func8, Tryd.ntmps8
  go_wp2_with fail
  refine (awake_c w hW hE).mono ?_
  rintro e w1 ⟨rfl, hb1⟩
  go_wp2_with fail
  refine (scan_c s w1 (hW.below hb1) (hE.below hb1) hs).mono ?_
  rintro e w2 ⟨v2, er2, at2, rfl, ho2, hb2⟩
  have B2 := hb1.trans (hb2.mono hb1.size)
  clear hb1 hb2
  cases hR : scanA s.data.toList with
  | inl eq =>
    obtain ⟨e, q⟩ := eq
    obtain ⟨rfl, rfl, rfl⟩ := ho2.inl hR
    have he : ((e : Int) != 0) = true := by have := scan_err_pos hR; simp; omega
    have he2 : ¬ (e : Int) = 0 := by have := scan_err_pos hR; omega
    clear ho2 hR
    go_wp2
    go_ret
    exact ⟨rfl, B2⟩
  | inr ts =>
    obtain ⟨rfl, rfl, hr2⟩ := ho2.inr hR
    have hl := scan_ok hR
    rw [HL.out] at hl
    have HC := Lib.hid (scan_stands hR)
    have T2 := Tks.of hr2
    obtain ⟨ao, cap, rfl⟩ := T2.form
    obtain ⟨nT, hnT⟩ : ∃ n, n = ts.length := ⟨_, rfl⟩
    have HN := Lib.hid hnT
    have hs2 := hl.1
    have htl : nT ≤ 2001 := by rw [hnT]; exact hl.2.2.1
    rw [← hnT] at T2 ⊢
    have HT := Lib.hid T2
    clear ho2 hr2 hR hl T2 hnT
    go_wp2_with fail
    go_loopw [7] (fun v wr => ∃ i : Nat, v = .int .i64 (i : Nat) ∧ i ≤ 2001 ∧ Below w2.heap.size w2 wr) (fun v _ => nT - (intOf v).toNat)
    case atStart => exact ⟨0, by go_num, by omega, b0 _⟩
    case round =>
      obtain ⟨i, rfl, hib, hbr⟩ := hrel
      by_cases hlt : i + 1 < nT
      · have hiI : (i : Int) + 1 < (nT : Int) := by omega
        have hiI2 : (i : Int) < (nT : Int) := by omega
        have hit1 : i + 1 < ts.length := by rw [← HN.out]; exact hlt
        have hit : i < ts.length := Nat.lt_of_succ_lt hit1
        have htl2 : ts.length ≤ 2001 := by rw [← HN.out]; exact htl
        have TA := HC.out.at i hit1
        have Tr := HT.out.below hbr
        obtain ⟨k, u, b, r, hP, hx, hd, hbl, hy, hle⟩ := TA
        rw [HL.out] at hle
        have hbw := B2.trans (hbr.mono B2.size)
        have Wr := hW.below hbw
        have Er := hE.below hbw
        obtain ⟨g, rfl, c0, c1, c2, c3⟩ := Tr.cells i hit
        obtain ⟨g', eg, -, -, -, d3⟩ := Tr.cells (i + 1) hit1
        injection eg with eg
        injection eg with eg _ _
        subst eg
        have hal := hP.alone hx
        have hnm := tok_name hP hx
        have hpu := hP.pos
        have hul : u.length ≤ 2000 := by omega
        have hxy : decide (((ts[i + 1]'hit1).a : Int) ≤ ((ts[i]'hit).a : Int)) = false := decide_eq_false (by omega)
        have hys : decide ((s.size : Int) < ((ts[i + 1]'hit1).a : Int)) = false := decide_eq_false (by omega)
        have hx0 : decide (((ts[i]'hit).a : Int) < 0) = false := decide_eq_false (by omega)
        have HS : Hid (∀ w', Tks w' (.slice (some ⟨g, 0, none⟩) nT cap) ts → Calls Tryd.prog 16 #[.string s, .slice (some ⟨g, 0, none⟩) nT cap, .int .i64 (i : Nat)] w' fun e w'' => e = .returned (.string ⟨u.toArray⟩) ∧ w'' = w') :=
          fun w' h' => said_c s w' _ ts i h' hit1 htl2 hs2 k u b r hP hd hbl hy hle
        have HA : Hid (lexA u = .inr [⟨(ts[i]'hit).k, (ts[i]'hit).n, (ts[i]'hit).t, 0⟩, ⟨0, 0, [], u.length⟩]) := hal
        generalize (ts[i + 1]'hit1).a = ya at *
        generalize hxx : (ts[i]'hit) = x at *
        obtain ⟨xk, xn, xt, xa⟩ := x
        simp only at c0 c1 c2 c3 hxy hx0 hnm HA
        have HNM := Lib.hid hnm
        have HTr := Lib.hid Tr
        generalize hUU : (⟨u.toArray⟩ : ByteArray) = U at *
        have HU := Lib.hid hUU
        generalize hTT : (⟨xt.toArray⟩ : ByteArray) = TX at *
        have HTT := Lib.hid hTT
        have HXX := Lib.hid hxx
        have hxyN : decide (ya ≤ xa) = false := by simpa using hxy
        have hysN : decide (s.size < ya) = false := by simpa using hys
        obtain ⟨j, hj⟩ : ∃ j, j = i + 1 := ⟨_, rfl⟩
        have hwi : IntKind.i64.wrap (j : Int) = (j : Int) := by rw [IntKind.wrap_i64]; omega
        have hij : (i : Int) + 1 = (j : Int) := by omega
        have hjN : (j : Int) < (nT : Int) := by omega
        rw [← hj] at d3
        have HJ := Lib.hid hj
        clear hj
        clear hP hx hd hbl hy hle hal hnm Tr hxx hUU hTT hiI htl2
        go_wp2_with fail
        go_quiet (fail)
        rename_i nq
        go_wp2_with fail
        refine (HS.out _ (HTr.out.below (bdr (b0 _) _))).mono ?_
        rintro e w3 ⟨rfl, rfl⟩
        have hUs : U.size = u.length := by rw [← HU.out, mk_size]
        have hUl : U.data.toList = u := by rw [← HU.out, mk_list]
        have HUs := Lib.hid hUs
        have hbd : Below wr.heap.size wr (wr.drewN nq) := bdr (b0 _) _
        have Wd3 := Wr.below hbd
        have Ed3 := Er.below hbd
        have Td3 := HTr.out.below hbd
        have Bd3 := hbw.trans (hbd.mono hbw.size)
        have Bd3' := hbr.trans (hbd.mono hbr.size)
        clear c0 c1 c2 c3 d3 hxy hys hx0 hUs hxyN hysN
        generalize wr.drewN nq = w3 at *
        clear hbd
        go_wp2_with fail
        refine (scan_c U w3 Wd3 Ed3 (by rw [HUs.out]; unfold maxLen; omega)).mono ?_
        rintro e w4 ⟨v4, er4, at4, rfl, ho4, hb4⟩
        rw [hUl, scan_short (by omega)] at ho4
        obtain ⟨rfl, rfl, hr4⟩ := ho4.inr HA.out
        have T4 := Tks.of hr4
        have Tl4 := Td3.below hb4
        have W4 := Wd3.below hb4
        have B4 := Bd3.trans (hb4.mono Bd3.size)
        have B4' := Bd3'.trans (hb4.mono Bd3'.size)
        obtain ⟨ao4, cap4, rfl⟩ := T4.form
        obtain ⟨g4, rfl, m0, m1, m2, m3⟩ := T4.cells 0 (by simp)
        obtain ⟨g4', eg, -, -, -, n3⟩ := T4.cells 1 (by simp)
        injection eg with eg
        injection eg with eg _ _
        subst eg
        obtain ⟨g', eg, c0, c1, c2, c3⟩ := Tl4.cells i hit
        injection eg with eg
        injection eg with eg _ _
        subst eg
        rw [HXX.out] at c0 c1 c2 c3
        simp only [List.getElem_cons_zero, List.getElem_cons_succ, Nat.zero_mul, Nat.one_mul, Nat.zero_add, HTT.out] at m0 m1 m2 m3 n3 c0 c1 c2 c3
        have hUs := HUs.out
        clear T4 ho4 hr4 Td3 Wd3 Ed3 Bd3 Bd3' m3 c3 Wr Er hbw hbr
        go_wp2_with fail
        go_quiet (fail)
        clear m0 m1 m2 n3 hUs
        go_wp2_with fail
        refine (name_c U _ (W4.below (bdr (b0 _) _)) (by rw [HUs.out]; unfold maxLen; omega)).mono ?_
        rw [hUl, HNM.out]
        rintro e w5 ⟨rfl, hb5⟩
        have B5 := B4.trans (((bdr (b0 w4) _).mono B4.size).trans (hb5.mono B4.size))
        have B5' := B4'.trans (((bdr (b0 w4) _).mono B4'.size).trans (hb5.mono B4'.size))
        have hl5 : w5.cell? ⟨g, i * 4, none⟩ = some (.int .i64 (xk : Nat)) := by
          have hg : g < w4.heap.size := cell_lt c0
          exact (hb5.cell (p := ⟨g, i * 4, none⟩) hg).trans c0
        clear c0 c1 c2 hb5
        by_cases hk2 : xk = 2
        · subst hk2
          go_wp2
          go_roundw
          case rel => (try ((repeat apply Exists.intro); refine ⟨?_, rfl⟩)); exact ⟨j, by go_num, by omega, B5'⟩
          case measure => have := HJ.out; simp [intOf]; omega
        · have hk2I : ¬ (xk : Int) = 2 := by omega
          have hk2B : ((xk : Int) == 2) = false := by simpa using hk2I
          have hk2D : decide (xk = 2) = false := decide_eq_false hk2
          rw [hk2D]
          go_wp2
          go_roundw
          case rel => (try ((repeat apply Exists.intro); refine ⟨?_, rfl⟩)); exact ⟨j, by go_num, by omega, B5'⟩
          case measure => have := HJ.out; simp [intOf]; omega
      · have hiI : ¬ (i : Int) + 1 < (nT : Int) := by omega
        go_wp2
        go_ret
        exact ⟨rfl, B2.trans (hbr.mono B2.size)⟩
end Go.Proofs.YtgebhhfliphpdaaDoor
