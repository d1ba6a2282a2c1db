/- The law BridgeCounts: the walk. -/
import Derived.Test.YtkhjodihlkfkdaaPartsW
import Derived.Test.YtkhjodihlkfkdaaApp0
namespace Go.Proofs.Ytkhjodihlkfkdaa
open Go.ChangeShapes Go.WideShapes Go.ChangeAt Go.RowKit
set_option linter.unusedVariables false

/-- What stands in memory from round to round. -/
def CoS (w : World) (n : Nat) (es : List EdT) (vl : Value) (q : Nat) (B : List Nat) (bl : Nat → Nat) (vb : Value) (wr : World) : Prop :=
  ∃ o', Row wr o' 2000 42 4 vl es.length (eev es) ∧ Or8 wr o' 3000 q n B bl ∧ Row wr o' 4500 3 1 vb B.length (intsL B) ∧ Step Pos w o0 wr o'

set_option maxRecDepth 100000 in
set_option maxHeartbeats 8000000 in
theorem counts_walk (w : World) (c0 : Int) (a1 : Option Addr) (len1 cap1 : Nat) (f1 : Nat → Int × Int) (ha1 : ArgP w o0 a1 len1 f1) (hlen : len1 ≤ 1048576) (hc0 : i64 c0) :
    Calls Try.prog 4 #[.int .i64 c0, .slice a1 len1 cap1] w fun e w' => e = .returned (.bool true) ∧ Below w.heap.size w w' := by
  have hw1 := awake_w w o0 1000 (by omega)
  have hp0 := fun wx => pick_any c0 64 wx hc0.1 hc0.2 (by omega) (by omega)
  go_enter Try.func4, Try.ntmps4
  go_wp2_with fail
  refine hw1.mono ?_
  rintro e w1 ⟨rfl, o1, s1⟩
  have S1 : Step Pos w o0 w1 o1 := s1.mono fun k hk => (show 0 < k by omega)
  clear hw1 s1
  go_wp2_with fail
  refine (hp0 _).mono ?_
  rintro e w2 ⟨r, hr, rfl, rfl⟩
  clear hp0
  obtain ⟨n, hn⟩ : ∃ n, n = r + 1 := ⟨_, rfl⟩
  have hnI : (1 : Int) + (r : Int) = (n : Int) := by omega
  have hn1 : 1 ≤ n := by omega
  have hn64 : n ≤ 64 := by omega
  clear hn
  have hgr := graph_w w2 o1 2000 n len1 cap1 100 a1 f1 (ha1.step S1 (fun h => by simp [Pos] at h)) (by omega) (by omega) (by omega) hlen (by omega) (by omega)
  go_wp2_with fail
  refine hgr.mono ?_
  rintro e w3 ⟨vl, es, o3, rfl, R3, hes, G, s3⟩
  have S3 : Step Pos w o0 w3 o3 := S1.trans (s3.mono fun k hk => (show 0 < k by omega))
  have hof := of_w newWalk_ok w3 o3 3000 n 2000 vl es R3.vwe (by omega) (by omega) (by omega) (by omega) (G.ok hlen)
  obtain ⟨al, cl, rfl⟩ := R3.form
  clear hgr s3 S1 hnI hr
  go_wp2_with fail
  refine hof.mono ?_
  rintro e w4 ⟨q, o4, B, bl, rfl, R4, A4, s4⟩
  have S4 : Step Pos w o0 w4 o4 := S3.trans (s4.mono fun k hk => (show 0 < k by have := hk.1; omega))
  have L4 := R3.step s4 (fun h => by have := h.1; omega)
  clear hof s4 S3 R3
  have hends : ∀ s, s ∈ ends es → s.1 < n ∧ s.2 < n := ends_lt fun x hx => ⟨(G.1 x hx).1, (G.1 x hx).2.1⟩
  have hpt := parts_w w4 o4 4000 2000 n _ (ends es) (L4.vwe.vwp fun x hx => ⟨(G.1 x hx).1.1, (G.1 x hx).2.1.1⟩) (by omega) (by omega) (by omega) (by rw [ends_len]; omega) hends
  go_wp2_with fail
  refine hpt.mono ?_
  rintro e w5 ⟨ba, o5, rfl, LA, s5⟩
  have L5 := L4.step s5 (by omega)
  have R5 := R4.step s5 (fun k hk h => by have := hk.2; omega)
  have S5 : Step Pos w o0 w5 o5 := S4.trans (s5.mono fun k hk => (show 0 < k by omega))
  have hBl := A4.len
  have hbr := bridges_w w5 o5 3000 q n 4500 B bl R5 (by omega)
  have HBK : Hid (cntB bl n = cntP ba n + B.length) := cnt_blocks G.asc hends A4 LA
  have hale := cntP_le ba n
  clear hpt s5 L4 R4 S4
  generalize hall : cntP ba n = all at *
  go_wp2_with fail
  refine hbr.mono ?_
  rintro e w6 ⟨vb, o6, rfl, RB, s6⟩
  have H6 : CoS w n es (.slice al es.length cl) q B bl vb w6 := ⟨o6, L5.step s6 (by omega), R5.step s6 (fun k hk h => by have := hk.2; omega), RB, S5.trans (s6.mono fun k hk => (show 0 < k by omega))⟩
  obtain ⟨av, cv, rfl⟩ := RB.form
  clear hbr s6 L5 R5 S5 RB
  go_wp2_with fail
  go_loopg [11, 12] es.length (fun gh va vi wr => ∃ k, k ≤ es.length ∧ gh = es.length - k ∧ vi = .int .i64 (k : Nat) ∧ va = .int .i64 ((bL es B k).length : Nat) ∧ CoS w n es (.slice al es.length cl) q B bl (.slice av B.length cv) wr)
  case atStart => exact ⟨0, by omega, by omega, by go_num, by simp [bL], H6⟩
  case round =>
    clear H6
    obtain ⟨k, hk, rfl, rfl, rfl, o9, L9, R9, RB9, S9⟩ := hrel
    have hatl := bL_le G.asc A4 hk
    obtain ⟨at', hat⟩ : ∃ x, x = (bL es B k).length := ⟨_, rfl⟩
    by_cases hkn : k < es.length
    · have hkI : (k : Int) < (es.length : Int) := by omega
      obtain ⟨gl, cl', hvl, hgl, hcl, hml, hltl, _, _⟩ := L9.pos (by omega)
      simp only [Value.slice.injEq] at hvl
      obtain ⟨rfl, _, rfl⟩ := hvl
      obtain ⟨ie, hie, hze0, hze1, hze2⟩ := info_parts infoEdge
      have hkc : k ≤ cl := by omega
      have hkcI : (k : Int) ≤ (cl : Int) := by omega
      have hk1c : k + 1 ≤ cl := by omega
      have hLt : (es.take k).length = k := by rw [List.length_take]; omega
      have hLd : (es.drop (k + 1)).length = es.length - (k + 1) := by rw [List.length_drop]
      have hspl : es = [] ++ (es.take k ++ es.drop k) := by rw [List.nil_append, List.take_append_drop]
      have hspl2 : es = es.take (k + 1) ++ (es.drop (k + 1) ++ []) := by rw [List.append_nil, List.take_append_drop]
      have n1 := eev_cells L9 hspl
      have n2 := fun {w' : World} {o' : Nat → Nat} (h : Row w' o' 2000 42 4 (.slice (some ⟨gl, 0, none⟩) es.length cl) es.length (eev es)) => eev_cells h hspl2
      rw [List.length_take, Nat.min_eq_left (by omega)] at n2
      have HNX := bL_next G.asc A4 hkn
      have HBR := Ans.bridge G.asc A4 hkn
      have HIN : bL es B (k + 1) = if idn es k ∈ B then bL es B k ++ [idn es k] else bL es B k := rfl
      have hid : es[k].id = ((idn es k : Nat) : Int) := by
        rw [idn_at hkn]
        have := (G.1 _ (List.getElem_mem hkn)).2.2.2.1.1
        omega
      rw [← hat] at HNX hatl ⊢
      have HX : Hid (((idn es k ∈ B → B[at']? = some (idn es k)) ∧ (idn es k ∉ B → ∀ i, B[at']? = some i → i ≠ idn es k)) ∧ (idn es k ∈ B ↔ ¬ Firm (ends es) k) ∧ (bL es B (k + 1) = if idn es k ∈ B then bL es B k ++ [idn es k] else bL es B k) ∧ es[k].id = ((idn es k : Nat) : Int) ∧ at' = (bL es B k).length) := ⟨HNX, HBR, HIN, hid, hat⟩
      clear hspl hspl2 HNX HBR HIN hid hat
      unfold maxLen at hml
      go_upto_region 14 with fail
      go_cut [13] (fun vr wx => ∃ o', Row wx o' 5000 42 4 vr k (eev (es.take k)) ∧ Step (fun j => j = 5000) wr o9 wx o')
      case first =>
        by_cases hk0 : k = 0
        · subst hk0
          have HR : ∃ o', Row wr o' 5000 42 4 (.slice none 0 0) 0 (eev (es.take 0)) ∧ Step (fun j => j = 5000) wr o9 wr o' := ⟨o9, Row.nil _ _ _ _ _, Step.refl _ _ _⟩
          clear L9 R9 S9 RB9 n1 n2
          go_wp2_with (first | (at_builtin; refine wpList_append_zero rfl (.tmp 50) (.tmp 53) 22 rfl 42 ie Try.underlying22 hie none 0 0 _ _ rfl rfl (Nat.le_refl _) ?_) | go_in)
          go_wp2
          go_meet
          exact HR
        · clear R9 S9 RB9 n2
          go_wp2_with (first | (at_builtin; refine wpList_append_lab rfl (.tmp 50) (.tmp 53) 22 rfl 42 ie (.agg #[.int .i64 0, .int .i64 0, .int .i64 0, .int .i64 0]) 4 32 Try.underlying22 hie hze0 hze1 hze2 rfl (by decide) o9 5000 _ 0 [] rfl (Row.nil _ _ _ _ _) ⟨gl, 0, none⟩ k cl (eev (es.take k)) rfl ?c1 n1 (eev_one _) (by omega) ?c3 ?c4 ?_) | go_in)
          case c1 => rw [eev_len, hLt]
          case c3 => unfold maxLen; omega
          case c4 => omega
          intro g7 c7 w7' o7' r7 s7
          have HR : ∃ o', Row w7' o' 5000 42 4 (.slice (some ⟨g7, 0, none⟩) (0 + k) c7) k (eev (es.take k)) ∧ Step (fun j => j = 5000) wr o9 w7' o' := by
            refine ⟨o7', ?_, s7⟩
            simp only [Nat.zero_add] at r7 ⊢
            exact r7
          clear r7 s7 L9 n1
          simp only [Nat.zero_add] at HR ⊢
          go_wp2
          go_meet
          exact HR
      case rest =>
      obtain ⟨oA, RA, sA⟩ := hcut
      have LAA := L9.step sA (by omega)
      have ORA := R9.step sA (fun j hj h => by have := hj.2; omega)
      have RBA := RB9.step sA (by omega)
      have SA : Step Pos w o0 wc oA := S9.trans (sA.mono fun j hj => (show 0 < j by omega))
      have nA := n2 LAA
      obtain ⟨ar, cr, rfl⟩ := RA.form
      clear n1 n2 L9 R9 S9 RB9 sA
      generalize wc = wA at LAA ORA SA nA RA RBA ⊢
      go_upto_region 15 with fail
      go_cut [13] (fun vr wx => ∃ o', Row wx o' 5000 42 4 vr (es.take k ++ es.drop (k + 1)).length (eev (es.take k ++ es.drop (k + 1))) ∧ Step (fun j => j = 5000) wA oA wx o')
      case first =>
        by_cases hkl : k + 1 = es.length
        · have HR : ∃ o', Row wA o' 5000 42 4 (.slice ar k cr) (es.take k ++ es.drop (k + 1)).length (eev (es.take k ++ es.drop (k + 1))) ∧ Step (fun j => j = 5000) wA oA wA o' := by
            refine ⟨oA, ?_, Step.refl _ _ _⟩
            have e : es.drop (k + 1) = [] := List.drop_eq_nil_of_le (by omega)
            rw [e, List.append_nil, hLt]
            exact RA
          have hkkI : (k : Int) + 1 ≤ (es.length : Int) := by omega
          have hz0 : es.length - (k + 1) = 0 := by omega
          have hkcr : k ≤ cr := by
            rcases RA.1.2 with ⟨hh, hk0⟩ | ⟨gx, cx, _, hh, _, _, hle, _⟩
            · omega
            · simp only [Value.slice.injEq] at hh
              obtain ⟨_, _, rfl⟩ := hh
              exact hle
          clear LAA ORA SA nA RA RBA hLt hLd hkl
          by_cases hcq : cl = k + 1
          · have hcq' : k + 1 = cl := hcq.symm
            have hz1 : es.length - cl = 0 := by omega
            clear hcq hz0 hkc hk1c hcl
            go_wp2_with (first | (at_builtin; refine wpList_append_zero rfl (.tmp 55) (.tmp 59) 22 rfl 42 ie Try.underlying22 hie ar k cr _ _ rfl rfl hkcr ?_) | go_in)
            go_wp2
            go_meet
            exact HR
          · go_wp2_with (first | (at_builtin; refine wpList_append_zero rfl (.tmp 55) (.tmp 59) 22 rfl 42 ie Try.underlying22 hie ar k cr _ _ rfl rfl hkcr ?_) | go_in)
            go_wp2
            go_meet
            exact HR
        · have hz : es.length - (k + 1) ≠ 0 := by omega
          have hcn : ¬ (cl = k + 1) := by omega
          have hkkI : (k : Int) + 1 ≤ (es.length : Int) := by omega
          clear ORA SA RBA
          go_wp2_with (first | (at_builtin; refine wpList_append_lab rfl (.tmp 55) (.tmp 59) 22 rfl 42 ie (.agg #[.int .i64 0, .int .i64 0, .int .i64 0, .int .i64 0]) 4 32 Try.underlying22 hie hze0 hze1 hze2 rfl (by decide) oA 5000 _ k (eev (es.take k)) rfl RA ⟨gl, (k + 1) * 4, none⟩ (es.length - (k + 1)) _ (eev (es.drop (k + 1))) rfl ?c1 nA (eev_one _) (by omega) ?c3 ?c4 ?_) | go_in)
          case c1 => rw [eev_len, hLd]
          case c3 => unfold maxLen; omega
          case c4 => omega
          intro g8 c8 w8' o8' r8 s8
          have HR : ∃ o', Row w8' o' 5000 42 4 (.slice (some ⟨g8, 0, none⟩) (k + (es.length - (k + 1))) c8) (es.take k ++ es.drop (k + 1)).length (eev (es.take k ++ es.drop (k + 1))) ∧ Step (fun j => j = 5000) wA oA w8' o' := by
            refine ⟨o8', ?_, s8⟩
            rw [List.length_append, hLt, hLd, eev_append]
            exact r8
          clear r8 s8 LAA nA RA
          go_wp2
          go_meet
          exact HR
      case rest =>
      obtain ⟨oC, RC, sC⟩ := hcut
      have LC := LAA.step sC (by omega)
      have ORC := ORA.step sC (fun j hj h => by have := hj.2; omega)
      have RBC := RBA.step sC (by omega)
      have SC : Step Pos w o0 wc oC := SA.trans (sC.mono fun j hj => (show 0 < j by omega))
      have hlr : (es.take k ++ es.drop (k + 1)).length ≤ 200 := by rw [List.length_append, hLt, hLd]; omega
      have hpq := parts_w wc oC 6000 5000 n _ (ends (es.take k ++ es.drop (k + 1))) (RC.vwe.vwp fun x hx => ⟨(G.rest x hx).1.1, (G.rest x hx).2.1⟩) (by omega) (by omega) (by omega) (by rw [ends_len]; omega) (ends_lt fun x hx => G.rest x hx)
      obtain ⟨arr, crr, rfl⟩ := RC.form
      clear LAA ORA SA nA RA RBA sC hLt hLd
      generalize hLen : (es.take k ++ es.drop (k + 1)).length = ml at *
      go_wp2_with fail
      refine hpq.mono ?_
      rintro e wD ⟨cD, oD, rfl, LDD, sD⟩
      obtain ⟨hF1, hF2⟩ := cnt_without hends (show k < (ends es).length by rw [ends_len]; exact hkn) LA LDD.rest
      rw [hall] at hF1 hF2
      have LD := LC.step sD (by omega)
      have ORD := ORC.step sD (fun j hj h => by have := hj.2; omega)
      have RBD := RBC.step sD (by omega)
      have SD : Step Pos w o0 wD oD := SC.trans (sD.mono fun j hj => (show 0 < j by omega))
      obtain ⟨x, hx⟩ : ∃ x, x = cntP cD n := ⟨_, rfl⟩
      rw [← hx] at hF1 hF2 ⊢
      clear hpq LC ORC RBC SC sD RC hlr hLen hx LDD
      obtain ⟨⟨hX1, hX2⟩, hX3, hX4, hX5, hX6⟩ := HX.out
      obtain ⟨gl2, cl2, hvl2, hgl2, hcl2, hml2, hltl2, hcellL, _⟩ := LD.pos (by omega)
      simp only [Value.slice.injEq, Option.some.injEq, Addr.mk.injEq, and_true] at hvl2
      obtain ⟨rfl, hcc2⟩ := hvl2
      clear hcc2
      have x0 := hcellL (k * 4 + 0) (by omega)
      rw [eev_get es k 0 hkn (by omega)] at x0
      replace x0 : wD.cell? ⟨gl, k * 4, none⟩ = some (.int .i64 es[k].id) := x0
      rw [hX5] at x0
      obtain ⟨ik, hik⟩ : ∃ y, y = idn es k := ⟨_, rfl⟩
      rw [← hik] at x0 hX1 hX2 hX3 hX4
      have HC : ∀ nq, CoS w n es (.slice (some ⟨gl, 0, none⟩) es.length cl) q B bl (.slice av B.length cv) (wD.drewN nq) := fun nq => ⟨oD, LD, ORD, RBD, SD.drewN nq⟩
      have HCH : Hid (∀ nq, CoS w n es (.slice (some ⟨gl, 0, none⟩) es.length cl) q B bl (.slice av B.length cv) (wD.drewN nq)) := HC
      by_cases hb : ik ∈ B
      · have hx1 := hF2 (hX3.1 hb)
        have hB1 := hX1 hb
        have hatB : at' < B.length := (List.getElem?_eq_some_iff.1 hB1).1
        have hNX : (bL es B (k + 1)).length = at' + 1 := by rw [hX4, if_pos hb, List.length_append, ← hX6]; rfl
        obtain ⟨gb, cb, hvb, hgb, hcb, hmb, hltb, hcellB, _⟩ := RBD.pos (by omega)
        simp only [Value.slice.injEq] at hvb
        obtain ⟨rfl, _, rfl⟩ := hvb
        have y0 := (hcellB at' (by omega)).trans (intsL_get B at' hatB)
        have y1 : B[at'] = ik := by
          have := List.getElem?_eq_getElem hatB
          rw [this] at hB1
          injection hB1
        rw [y1] at y0
        subst hx1
        have hatI : (at' : Int) < (B.length : Int) := by omega
        have HNX : Hid ((bL es B (k + 1)).length = at' + 1) := hNX
        clear hX1 hX2 hX3 hX4 hX5 hX6 hF1 hF2 hcellL hcellB hB1 y1 hNX HC LD ORD RBD SD hik HX hb
        go_wp2_with fail
        go_quiet (fail)
        have HN := HCH.out nq
        go_wp2
        go_roundg (es.length - (k + 1))
        case measure => omega
        case rel => exact ⟨k + 1, by omega, rfl, by go_num, by rw [HNX.out]; go_num, HN⟩
      · have hx1 := hF1 (by
          apply Classical.byContradiction
          intro hf
          exact hb (hX3.2 hf))
        have hNX : (bL es B (k + 1)).length = at' := by rw [hX4, if_neg hb, ← hX6]
        have HNX : Hid ((bL es B (k + 1)).length = at') := hNX
        subst hx1
        by_cases hatB : at' < B.length
        · obtain ⟨gb, cb, hvb, hgb, hcb, hmb, hltb, hcellB, _⟩ := RBD.pos (by omega)
          simp only [Value.slice.injEq] at hvb
          obtain ⟨rfl, _, rfl⟩ := hvb
          have y0 := (hcellB at' (by omega)).trans (intsL_get B at' hatB)
          have y1 := hX2 hb B[at'] (List.getElem?_eq_getElem hatB)
          generalize B[at'] = z at y0 y1
          have hzI : ((z : Int) == (ik : Int)) = false := by simp only [beq_eq_false_iff_ne, ne_eq]; omega
          have hatI : (at' : Int) < (B.length : Int) := by omega
          clear hX1 hX2 hX3 hX4 hX5 hX6 hF1 hF2 hcellL hcellB hNX HC LD ORD RBD SD hik HX hb
          go_wp2_with fail
          go_quiet (fail)
          have HN := HCH.out nq
          go_wp2
          go_roundg (es.length - (k + 1))
          case measure => omega
          case rel => exact ⟨k + 1, by omega, rfl, by go_num, by rw [HNX.out], HN⟩
        · have hatI : ¬ ((at' : Int) < (B.length : Int)) := by omega
          clear hX1 hX2 hX3 hX4 hX5 hX6 hF1 hF2 hcellL hNX HC LD ORD RBD SD hik HX hb
          go_wp2_with fail
          go_quiet (fail)
          have HN := HCH.out nq
          go_wp2
          go_roundg (es.length - (k + 1))
          case measure => omega
          case rel => exact ⟨k + 1, by omega, rfl, by go_num, by rw [HNX.out], HN⟩
    · obtain rfl : k = es.length := by omega
      have hkI : ¬ ((es.length : Int) < (es.length : Int)) := by omega
      have hBLL : (bL es B es.length).length = B.length := (congrArg List.length (bL_all G.asc A4)).symm
      rw [hBLL]
      have hbls := blocks_w wr o9 3000 q n B bl R9 hn1 hn64
      rw [HBK.out] at hbls
      have hBel : Below w.heap.size w wr := S9.old
      clear L9 R9 RB9 S9 hatl hat hBLL HBK A4 LA
      go_wp2_with fail
      refine hbls.mono ?_
      rintro e w7 ⟨rfl, rfl⟩
      clear hbls
      go_wp2
      go_ret
      exact ⟨rfl, hBel⟩
end Go.Proofs.Ytkhjodihlkfkdaa
