/- The law BridgeRing: the walk. -/
import Derived.Test.YtkhjodihlkfkdaaRingM
import Derived.Test.YtkhjodihlkfkdaaHoldsM
import Derived.Test.YtkhjodihlkfkdaaApp0
namespace Go.Proofs.Ytkhjodihlkfkdaa
open Go.ChangeShapes Go.WideShapes Go.ChangeAt Go.RowKit
set_option linter.unusedVariables false

/-- What stands in memory from round to round. -/
def RiO (w : World) (n : Nat) (es : List EdT) (vl : Value) (q q2 : Nat) (B B2 : List Nat) (bl bl2 : Nat → Nat) (vb vw : Value) (W : List Nat) (wr : World) (o' : Nat → Nat) : Prop :=
  Row wr o' 2000 42 4 vl es.length (eev es) ∧ Or8 wr o' 3000 q n B bl ∧ Or8 wr o' 5000 q2 n B2 bl2 ∧ Row wr o' 6000 3 1 vb B.length (intsL B) ∧ Row wr o' 6500 3 1 vw W.length (intsL W) ∧ Step Pos w o0 wr o'
theorem RiO.step {w wr wx : World} {n : Nat} {es : List EdT} {vl : Value} {q q2 : Nat} {B B2 : List Nat} {bl bl2 : Nat → Nat} {vb vw : Value} {W : List Nat} {o' ox : Nat → Nat} {lb : Nat} (h : RiO w n es vl q q2 B B2 bl bl2 vb vw W wr o') (s : Step (fun k => k = lb) wr o' wx ox) (hlb : 7000 ≤ lb) : RiO w n es vl q q2 B B2 bl bl2 vb vw W wx ox := by
  obtain ⟨h1, h2, h3, h4, h5, h6⟩ := h
  exact ⟨h1.step s (by omega), h2.step s (fun k hk x => by have := hk.2; omega), h3.step s (fun k hk x => by have := hk.2; omega), h4.step s (by omega), h5.step s (by omega), h6.trans (s.mono fun k hk => (show 0 < k by omega))⟩
theorem RiO.drew {w wr : World} {n : Nat} {es : List EdT} {vl : Value} {q q2 : Nat} {B B2 : List Nat} {bl bl2 : Nat → Nat} {vb vw : Value} {W : List Nat} {o' : Nat → Nat} (h : RiO w n es vl q q2 B B2 bl bl2 vb vw W wr o') (m : Nat) : RiO w n es vl q q2 B B2 bl bl2 vb vw W (wr.drewN m) o' := by
  obtain ⟨h1, h2, h3, h4, h5, h6⟩ := h
  exact ⟨h1, h2, h3, h4, h5, h6.drewN m⟩
/-- Which bridges stay. -/
def WOk (es : List EdT) (B : List Nat) (u v k : Nat) (W : List Nat) : Prop := W.Pairwise (· < ·) ∧ (∀ i, i ∈ W ↔ i ∈ B.take k ∧ ∀ e, e < es.length → idn es e = i → Jn (ends es) (fun j => j ≠ e) u v) ∧ W.length ≤ k
theorem WOk.no {es : List EdT} {B : List Nat} {u v k : Nat} {W : List Nat} (h : WOk es B u v k W) (hk : k < B.length) {e : Nat} (he : e < es.length) (hi : idn es e = B[k]) (hn : ¬ Jn (ends es) (fun j => j ≠ e) u v) : WOk es B u v (k + 1) W := by
  refine ⟨h.1, fun i => ?_, by have := h.2.2; omega⟩
  rw [h.2.1, List.take_succ_eq_append_getElem hk, List.mem_append, List.mem_singleton]
  constructor
  · exact fun q => ⟨.inl q.1, q.2⟩
  · rintro ⟨q | rfl, q2⟩
    · exact ⟨q, q2⟩
    · exact absurd (q2 e he hi) hn
theorem WOk.yes {es : List EdT} {B : List Nat} {u v k : Nat} {W : List Nat} (h : WOk es B u v k W) (hB : B.Pairwise (· < ·)) (hk : k < B.length) (hy : ∀ e, e < es.length → idn es e = B[k] → Jn (ends es) (fun j => j ≠ e) u v) : WOk es B u v (k + 1) (W ++ [B[k]]) := by
  refine ⟨?_, fun i => ?_, by rw [List.length_append]; have := h.2.2; simp; omega⟩
  · rw [List.pairwise_append]
    refine ⟨h.1, by simp, fun a ha b hb => ?_⟩
    simp only [List.mem_singleton] at hb
    subst hb
    obtain ⟨j, hj, rfl⟩ := List.mem_take_iff_getElem.1 ((h.2.1 a).1 ha).1
    exact List.pairwise_iff_getElem.1 hB j k (by omega) hk (by omega)
  · rw [List.mem_append, h.2.1, List.take_succ_eq_append_getElem hk, List.mem_append, List.mem_singleton]
    constructor
    · rintro (⟨a, b⟩ | rfl)
      · exact ⟨.inl a, b⟩
      · exact ⟨.inr rfl, hy⟩
    · rintro ⟨a | rfl, b⟩
      · exact .inl ⟨a, b⟩
      · exact .inr rfl

set_option maxRecDepth 100000 in
set_option maxHeartbeats 8000000 in
theorem ring_walk (w : World) (c0 c2 c3 : Int) (a1 : Option Addr) (len1 cap1 : Nat) (f1 : Nat → Int × Int) (ha1 : ArgP w o0 a1 len1 f1) (hlen : len1 ≤ 1048576) (hc0 : i64 c0) (hc2 : i64 c2) (hc3 : i64 c3) :
    Calls Try.prog 8 #[.int .i64 c0, .slice a1 len1 cap1, .int .i64 c2, .int .i64 c3] w fun e w' => e = .returned (.bool true) ∧ Below w.heap.size w w' := by
  have hw1 := awake_w w o0 1000 (by omega)
  have hp0 := fun wx => pick_any c0 63 wx hc0.1 hc0.2 (by omega) (by omega)
  go_enter Try.func8, Try.ntmps8
  go_wp2_with fail
  refine hw1.mono ?_
  rintro e w1 ⟨rfl, o1, s1⟩
  have S1 : Step Pos w o0 w1 o1 := s1.mono fun k hk => (show 0 < k by omega)
  clear hw1 s1
  go_wp2_with fail
  refine (hp0 _).mono ?_
  rintro e w2 ⟨r, hr, rfl, rfl⟩
  clear hp0
  obtain ⟨n, hn⟩ : ∃ n, n = r + 2 := ⟨_, rfl⟩
  have hnI : (2 : Int) + (r : Int) = (n : Int) := by omega
  have hn1 : 1 ≤ n := by omega
  have hn64 : n ≤ 64 := by omega
  clear hn
  have hgr := graph_w w2 o1 2000 n len1 cap1 100 a1 f1 (ha1.step S1 (fun h => by simp [Pos] at h)) (by omega) (by omega) (by omega) hlen (by omega) (by omega)
  go_wp2_with fail
  refine hgr.mono ?_
  rintro e w3 ⟨vl, es, o3, rfl, R3, hes, G, s3⟩
  have S3 : Step Pos w o0 w3 o3 := S1.trans (s3.mono fun k hk => (show 0 < k by omega))
  obtain ⟨al, cl, rfl⟩ := R3.form
  clear hgr s3 S1 hnI hr
  have hp2 := fun wx => pick_any c2 n wx hc2.1 hc2.2 (by omega) (by omega)
  have hp3 := fun wx => pick_any c3 n wx hc3.1 hc3.2 (by omega) (by omega)
  go_wp2_with fail
  refine (hp2 _).mono ?_
  rintro e w5 ⟨u, hu, rfl, rfl⟩
  go_wp2_with fail
  refine (hp3 _).mono ?_
  rintro e w6 ⟨v, hv, rfl, rfl⟩
  clear hp2 hp3
  have hpt := parts_in w6 o3 2500 2000 n _ (ends es) (R3.vwe.vwp fun x hx => ⟨(G.1 x hx).1.1, (G.1 x hx).2.1.1⟩) (by omega) (by omega) (by omega) (by rw [ends_len]; omega) (ends_lt fun x hx => ⟨(G.1 x hx).1, (G.1 x hx).2.1⟩)
  go_wp2_with fail
  refine hpt.mono ?_
  rintro e w7 ⟨g7, b7, o7, rfl, R7, ⟨C7, _⟩, s7⟩
  have R37 := R3.step s7 (by omega)
  have S7 : Step Pos w o0 w7 o7 := S3.trans (s7.mono fun k hk => (show 0 < k by omega))
  obtain ⟨g, cap, hv7, hg7, hc7, hm7, hlt7, hcell7, hfr7⟩ := R7.pos (by omega)
  simp only [Value.slice.injEq, Option.some.injEq, Addr.mk.injEq, and_true, true_and] at hv7
  obtain ⟨rfl, hcc⟩ := hv7
  have cu := (hcell7 u (by omega)).trans (natsF_get b7 hu)
  have cv := (hcell7 v (by omega)).trans (natsF_get b7 hv)
  have huI : (u : Int) < (n : Int) := by omega
  have hvI : (v : Int) < (n : Int) := by omega
  have HC : Hid (b7 u = b7 v ↔ Cj (ends es) u v) := C7 u v hu hv
  clear hcell7 hfr7 R7 C7 hcc hpt s7 R3 S3
  obtain ⟨bu, hbu⟩ : ∃ x, x = b7 u := ⟨_, rfl⟩
  obtain ⟨bv, hbv⟩ : ∃ x, x = b7 v := ⟨_, rfl⟩
  rw [← hbu] at cu HC
  rw [← hbv] at cv HC
  clear hbu hbv
  by_cases huv : u = v
  · subst huv
    have hBel : ∀ m, Below w.heap.size w (w7.drewN m) := fun m => below_drew S7.old m
    clear R37 S7 HC G
    go_wp2_with fail
    go_quiet (fail)
    have hB := hBel nq
    clear hBel
    go_wp2
    go_ret
    exact ⟨rfl, hB⟩
  · have huvI : ((u : Int) == (v : Int)) = false := by simp only [beq_eq_false_iff_ne, ne_eq]; omega
    by_cases hbb : bu = bv
    · subst hbb
      have HJ : Hid (Jn (ends es) (fun _ => True) u v) := cj_all.1 (HC.out.1 rfl)
      go_wp2_with fail
      go_quiet (fail)
      have R8 : Row (w7.drewN nq) o7 2000 42 4 (.slice al es.length cl) es.length (eev es) := R37
      have S8 : Step Pos w o0 (w7.drewN nq) o7 := S7.drewN nq
      clear R37 S7 HC cu cv hg7 hc7 hm7 hlt7
      generalize w7.drewN nq = w8 at R8 S8 ⊢
      have hof := of_w newWalk_ok w8 o7 3000 n 2000 _ es R8.vwe (by omega) (by omega) (by omega) (by omega) (G.ok hlen)
      go_wp2_with fail
      refine hof.mono ?_
      rintro e w9 ⟨q, o9, B, bl, rfl, OR9, A9, s9⟩
      have R9 := R8.step s9 (fun h => by have := h.1; omega)
      have S9 : Step Pos w o0 w9 o9 := S8.trans (s9.mono fun k hk => (show 0 < k by have := hk.1; omega))
      clear hof s9 R8 S8
      have hes0 : 0 < es.length := by
        apply Classical.byContradiction
        intro hz
        have he : es = [] := List.length_eq_zero_iff.1 (by omega)
        have := HJ.out (fun z => z = u) rfl (fun i x hx _ => by rw [he] at hx; simp [ends] at hx)
        exact huv this.symm
      obtain ⟨gl, cl', hvl, hgl, hcl, hml, hltl, _, _⟩ := R9.pos hes0
      simp only [Value.slice.injEq] at hvl
      obtain ⟨rfl, _, rfl⟩ := hvl
      obtain ⟨ie, hie, hze0, hze1, hze2⟩ := info_parts infoEdge
      have n1 := eev_cells (A := []) (M := es) (Z := []) R9 (by simp)
      simp only [List.length_nil, Nat.zero_mul] at n1
      unfold maxLen at hml
      go_wp2_with (first | (at_builtin; refine wpList_append_lab rfl (.const (.slice none 0 0)) (.tmp 64) 22 rfl 42 ie (.agg #[.int .i64 0, .int .i64 0, .int .i64 0, .int .i64 0]) 4 32 Try.underlying22 hie hze0 hze1 hze2 rfl (by decide) o9 4000 _ 0 [] rfl (Row.nil _ _ _ _ _) ⟨gl, 0, none⟩ es.length cl (eev es) rfl ?c1 n1 (eev_one _) (by omega) ?c3 ?c4 ?_) | go_in)
      case c1 => rw [eev_len]
      case c3 => unfold maxLen; omega
      case c4 => omega
      intro gA cA wA oA rA sA
      try simp only [Nat.zero_add, List.nil_append] at rA
      go_wp2_with (first | (at_builtin; refine wpList_append_lab rfl (.tmp 65) (.tmp 69) 22 rfl 42 ie (.agg #[.int .i64 0, .int .i64 0, .int .i64 0, .int .i64 0]) 4 32 Try.underlying22 hie hze0 hze1 hze2 rfl (by decide) oA 4000 _ es.length (eev es) rfl (rA.step (allocStep (fun _ => False) _ oA _) (by simp)) ⟨wA.heap.size, 0, none⟩ 1 1 [.int .i64 5, .int .i64 (u : Nat), .int .i64 (v : Nat), .int .i64 0] rfl rfl ?d1 ?d2 (by decide) ?d3 ?d4 ?_) | go_in)
      case d1 =>
        intro j u' hj
        match j, hj with
        | 0, hj => simp at hj; subst hj; simp [Addr.add]
        | 1, hj => simp at hj; subst hj; simp [Addr.add]
        | 2, hj => simp at hj; subst hj; simp [Addr.add]
        | 3, hj => simp at hj; subst hj; simp [Addr.add]
      case d2 => intro z hz; simp at hz; rcases hz with rfl | rfl | rfl | rfl <;> rfl
      case d3 => unfold maxLen; omega
      case d4 => omega
      intro gF cF wF oF rF sF
      have sAF : Step (fun k => k = 4000) w9 o9 wF oF := sA.trans ((allocStep _ wA oA _).trans sF)
      have RF : Row wF oF 4000 42 4 (.slice (some ⟨gF, 0, none⟩) (es.length + 1) cF) (es ++ [(⟨5, (u : Int), (v : Int), 0⟩ : EdT)]).length (eev (es ++ [(⟨5, (u : Int), (v : Int), 0⟩ : EdT)])) := by
        rw [List.length_append, eev_append]; exact rF
      have RLF := R9.step sAF (by omega)
      have ORF := OR9.step sAF (fun k hk h => by have := hk.2; omega)
      have SF : Step Pos w o0 wF oF := S9.trans (sAF.mono fun k hk => (show 0 < k by omega))
      obtain ⟨okf, _, _, _⟩ := ring_lists G hlen hu hv huv
      have hof2 := of_w newWalk_ok wF oF 5000 n 4000 _ _ RF.vwe (by omega) (by omega) (by simp; omega) (by omega) okf
      clear n1 rA sA rF sF sAF R9 OR9 S9 okf RF
      go_wp2_with fail
      refine hof2.mono ?_
      rintro e wG ⟨q2, oG, B2, bl2, rfl, OR2, A2, sG⟩
      obtain ⟨hM, hS, hCt⟩ := ring_ans G hlen hu hv huv A9 A2 HJ.out
      have RLG := RLF.step sG (fun h => by have := h.1; omega)
      have ORG := ORF.step sG (fun k hk h => by have := hk.2; have := h.1; omega)
      have SG : Step Pos w o0 wG oG := SF.trans (sG.mono fun k hk => (show 0 < k by have := hk.1; omega))
      have hBl := A9.len
      have hB2l := A2.len
      simp only [List.length_append, List.length_cons, List.length_nil] at hB2l
      have hbr := bridges_w wG oG 3000 q n 6000 B bl ORG (by omega)
      clear hof2 sG RLF ORF SF
      go_wp2_with fail
      refine hbr.mono ?_
      rintro e wH ⟨vb, oH, rfl, RB, sH⟩
      have H0 : RiO w n es (.slice (some ⟨gl, 0, none⟩) es.length cl) q q2 B B2 bl bl2 vb (.slice none 0 0) [] wH oH := ⟨RLG.step sH (by omega), ORG.step sH (fun k hk h => by have := hk.2; omega), OR2.step sH (fun k hk h => by have := hk.2; omega), RB, Row.nil _ _ _ _ _, SG.trans (sH.mono fun k hk => (show 0 < k by omega))⟩
      have W0 : WOk es B u v 0 [] := ⟨by simp, by simp, by simp⟩
      obtain ⟨av, cv', rfl⟩ := RB.form
      have HM : Hid ((∀ i, i ∈ B2 ↔ i ∈ B ∧ ∀ e, e < es.length → idn es e = i → Jn (ends es) (fun j => j ≠ e) u v) ∧ bl2 u = bl2 v ∧ cntB bl2 n + B.length = cntB bl n + B2.length) := ⟨hM, hS, hCt⟩
      clear hbr sH RLG ORG OR2 RB SG hM hS hCt
      go_wp2_with fail
      go_loopg [16, 18] B.length (fun gh vw vi wr => ∃ k W o', k ≤ B.length ∧ gh = B.length - k ∧ vi = .int .i64 (k : Nat) ∧ WOk es B u v k W ∧ RiO w n es (.slice (some ⟨gl, 0, none⟩) es.length cl) q q2 B B2 bl bl2 (.slice av B.length cv') vw W wr o')
      case atStart => exact ⟨0, [], oH, by omega, by omega, by go_num, W0, H0⟩
      case round =>
        clear H0 W0
        obtain ⟨k, W, oK, hk, rfl, rfl, WK, HK⟩ := hrel
        obtain ⟨aw, cw, rfl⟩ := HK.2.2.2.2.1.form
        have hWl := WK.2.2
        by_cases hkn : k < B.length
        · obtain ⟨e, he, hid, hnf⟩ := (A9.2.1 B[k]).1 (List.getElem_mem hkn)
          have hidI : ((B[k] : Nat) : Int) = es[e].id := by
            rw [idn_at he] at hid
            have := (G.1 _ (List.getElem_mem he)).2.2.2.1.1
            omega
          have hkI : (k : Int) < (B.length : Int) := by omega
          have HE : Hid (idn es e = B[k] ∧ ((B[k] : Nat) : Int) = es[e].id) := ⟨hid, hidI⟩
          obtain ⟨z, hz⟩ : ∃ z, z = B[k] := ⟨_, rfl⟩
          have HZ : Hid (z = B[k]) := hz
          have I0 : ∃ oJ, Row wr oJ 7000 42 4 (.slice none 0 0) ((es.take 0).filter fun x => x.id != (z : Int)).length (eev ((es.take 0).filter fun x => x.id != (z : Int))) ∧ RiO w n es (.slice (some ⟨gl, 0, none⟩) es.length cl) q q2 B B2 bl bl2 (.slice av B.length cv') (.slice aw W.length cw) W wr oJ := ⟨oK, Row.nil _ _ _ _ _, HK⟩
          obtain ⟨gb, cb, hvb, hgb, hcb, hmb, hltb, _, _⟩ := HK.2.2.2.1.pos (by omega)
          simp only [Value.slice.injEq] at hvb
          obtain ⟨rfl, _, rfl⟩ := hvb
          clear HK hid hidI hz hnf
          go_wp2_with fail
          go_loopg [19, 20] es.length (fun gh2 vr vj wx => ∃ j oJ, j ≤ es.length ∧ gh2 = es.length - j ∧ vj = .int .i64 (j : Nat) ∧ Row wx oJ 7000 42 4 vr ((es.take j).filter fun x => x.id != (z : Int)).length (eev ((es.take j).filter fun x => x.id != (z : Int))) ∧ RiO w n es (.slice (some ⟨gl, 0, none⟩) es.length cl) q q2 B B2 bl bl2 (.slice (some ⟨gb, 0, none⟩) B.length cv') (.slice aw W.length cw) W wx oJ)
          case atStart => obtain ⟨oJ, a, b⟩ := I0; exact ⟨0, oJ, by omega, by omega, by go_num, a, b⟩
          case round =>
            clear I0
            obtain ⟨j, oJ, hj, rfl, rfl, RR, HR⟩ := hrel
            obtain ⟨ar, cr, rfl⟩ := RR.form
            by_cases hjn : j < es.length
            · have hjI : (j : Int) < (es.length : Int) := by omega
              obtain ⟨g1, c1, hv1, hg1, hcc1, hmm1, hlt1, hce1, _⟩ := HR.1.pos (by omega)
              simp only [Value.slice.injEq, Option.some.injEq, Addr.mk.injEq, and_true] at hv1
              obtain ⟨rfl, hq1⟩ := hv1
              obtain ⟨g2, c2', hv2, hg2, hcc2, hmm2, hlt2, hce2, _⟩ := HR.2.2.2.1.pos (by omega)
              simp only [Value.slice.injEq, Option.some.injEq, Addr.mk.injEq, and_true] at hv2
              obtain ⟨rfl, hq2⟩ := hv2
              clear hq1 hq2
              have x0 := hce1 (j * 4 + 0) (by omega)
              have x1 := hce1 (j * 4 + 1) (by omega)
              have x2 := hce1 (j * 4 + 2) (by omega)
              have x3 := hce1 (j * 4 + 3) (by omega)
              rw [eev_get es j 0 hjn (by omega)] at x0
              rw [eev_get es j 1 hjn (by omega)] at x1
              rw [eev_get es j 2 hjn (by omega)] at x2
              rw [eev_get es j 3 hjn (by omega)] at x3
              replace x0 : wr.cell? ⟨gl, j * 4, none⟩ = some (.int .i64 es[j].id) := x0
              replace x1 : wr.cell? ⟨gl, j * 4 + 1, none⟩ = some (.int .i64 es[j].u) := x1
              replace x2 : wr.cell? ⟨gl, j * 4 + 2, none⟩ = some (.int .i64 es[j].v) := x2
              replace x3 : wr.cell? ⟨gl, j * 4 + 3, none⟩ = some (.int .i64 es[j].wt) := x3
              have y0 := (hce2 k (by omega)).trans (intsL_get B k hkn)
              rw [← HZ.out] at y0
              have hfl : ((es.take j).filter fun x => x.id != (z : Int)).length ≤ 100 := by
                have h1 := List.length_filter_le (fun x : EdT => x.id != (z : Int)) (es.take j)
                rw [List.length_take] at h1
                omega
              have et : (es.take (j + 1)).filter (fun x => x.id != (z : Int)) = (es.take j).filter (fun x => x.id != (z : Int)) ++ (if (es[j].id != (z : Int)) = true then [es[j]] else []) := by
                rw [List.take_succ_eq_append_getElem hjn, List.filter_append]
                congr 1
                by_cases q : (es[j].id != (z : Int)) = true
                · rw [if_pos q]; simp only [List.filter_cons, q, if_true, List.filter_nil]
                · rw [if_neg q]; simp only [List.filter_cons, q, List.filter_nil]; rfl
              have HET : Hid ((es.take (j + 1)).filter (fun x => x.id != (z : Int)) = (es.take j).filter (fun x => x.id != (z : Int)) ++ (if (es[j].id != (z : Int)) = true then [es[j]] else [])) := et
              clear hce1 hce2 et hcc1 hmm1 hg1 hlt1 hcc2 hmm2 hg2 hlt2
              by_cases hne : (es[j].id != (z : Int)) = true
              · have HET2 : Hid ((es.take (j + 1)).filter (fun x => x.id != (z : Int)) = (es.take j).filter (fun x => x.id != (z : Int)) ++ [es[j]]) := by have := HET.out; rw [if_pos hne] at this; exact this
                clear HET
                generalize es[j] = xj at x0 x1 x2 x3 HET2 hne
                generalize hF : (es.take j).filter (fun x => x.id != (z : Int)) = F at RR HET2 hfl
                clear hF
                go_wp2_with fail
                go_quiet (fail)
                have RR' : Row (wr.drewN nq) oJ 7000 42 4 (.slice ar F.length cr) F.length (eev F) := RR
                have HR' := HR.drew nq
                have x0' : (wr.drewN nq).cell? ⟨gl, j * 4, none⟩ = some (.int .i64 xj.id) := x0
                have x1' : (wr.drewN nq).cell? ⟨gl, j * 4 + 1, none⟩ = some (.int .i64 xj.u) := x1
                have x2' : (wr.drewN nq).cell? ⟨gl, j * 4 + 2, none⟩ = some (.int .i64 xj.v) := x2
                have x3' : (wr.drewN nq).cell? ⟨gl, j * 4 + 3, none⟩ = some (.int .i64 xj.wt) := x3
                clear RR HR x0 x1 x2 x3 y0
                generalize wr.drewN nq = wQ at RR' HR' x0' x1' x2' x3' ⊢
                go_wp2_with (first | (at_builtin; refine wpList_append_lab rfl (.tmp 116) (.tmp 121) 22 rfl 42 ie (.agg #[.int .i64 0, .int .i64 0, .int .i64 0, .int .i64 0]) 4 32 Try.underlying22 hie hze0 hze1 hze2 rfl (by decide) oJ 7000 _ F.length (eev F) rfl (RR'.step (allocStep (fun _ => False) _ oJ _) (by simp)) ⟨wQ.heap.size, 0, none⟩ 1 1 [.int .i64 xj.id, .int .i64 xj.u, .int .i64 xj.v, .int .i64 xj.wt] rfl rfl ?d1 ?d2 (by decide) ?d3 ?d4 ?_) | go_in)
                case d1 =>
                  intro i u' hi
                  match i, hi with
                  | 0, hi => simp at hi; subst hi; simp [Addr.add]
                  | 1, hi => simp at hi; subst hi; simp [Addr.add]
                  | 2, hi => simp at hi; subst hi; simp [Addr.add]
                  | 3, hi => simp at hi; subst hi; simp [Addr.add]
                case d2 => intro t ht; simp at ht; rcases ht with rfl | rfl | rfl | rfl <;> rfl
                case d3 => unfold maxLen; omega
                case d4 => omega
                intro gS cS wS oS rS sS
                have sQS : Step (fun i => i = 7000) wQ oJ wS oS := (allocStep _ wQ oJ _).trans sS
                have HN : Hid (Row wS oS 7000 42 4 (.slice (some ⟨gS, 0, none⟩) (F.length + 1) cS) ((es.take (j + 1)).filter fun x => x.id != (z : Int)).length (eev ((es.take (j + 1)).filter fun x => x.id != (z : Int))) ∧ RiO w n es (.slice (some ⟨gl, 0, none⟩) es.length cl) q q2 B B2 bl bl2 (.slice (some ⟨gb, 0, none⟩) B.length cv') (.slice aw W.length cw) W wS oS) := by
                  refine ⟨?_, HR'.step sQS (by omega)⟩
                  rw [HET2.out, List.length_append, eev_append]
                  exact rS
                clear rS sS sQS RR' HR' x0' x1' x2' x3' HET2 hne
                go_wp2
                go_roundg (es.length - (j + 1))
                case measure => omega
                case rel => exact ⟨j + 1, oS, by omega, rfl, by go_num, HN.out.1, HN.out.2⟩
              · have hne' : (es[j].id != (z : Int)) = false := by simpa using hne
                have HET2 : Hid ((es.take (j + 1)).filter (fun x => x.id != (z : Int)) = (es.take j).filter (fun x => x.id != (z : Int))) := by have := HET.out; rw [if_neg hne, List.append_nil] at this; exact this
                clear HET hne
                generalize es[j] = xj at x0 x1 x2 x3 hne'
                go_wp2_with fail
                go_quiet (fail)
                have HN : Hid (Row (wr.drewN nq) oJ 7000 42 4 (.slice ar ((es.take j).filter fun x => x.id != (z : Int)).length cr) ((es.take (j + 1)).filter fun x => x.id != (z : Int)).length (eev ((es.take (j + 1)).filter fun x => x.id != (z : Int))) ∧ RiO w n es (.slice (some ⟨gl, 0, none⟩) es.length cl) q q2 B B2 bl bl2 (.slice (some ⟨gb, 0, none⟩) B.length cv') (.slice aw W.length cw) W (wr.drewN nq) oJ) := by
                  refine ⟨?_, HR.drew nq⟩
                  rw [HET2.out]; exact RR
                clear RR HR x0 x1 x2 x3 y0 HET2 hne'
                go_wp2
                go_roundg (es.length - (j + 1))
                case measure => omega
                case rel => exact ⟨j + 1, oJ, by omega, rfl, by go_num, HN.out.1, HN.out.2⟩
            · obtain rfl : j = es.length := by omega
              rw [List.take_length] at RR
              have hRm : ∀ x, x ∈ es.filter (fun x => x.id != (z : Int)) → (0 ≤ x.u ∧ x.u < n) ∧ (0 ≤ x.v ∧ x.v < n) := fun x hx => by
                have := G.1 x (List.mem_filter.1 hx).1
                exact ⟨this.1, this.2.1⟩
              have hRl : (es.filter (fun x => x.id != (z : Int))).length ≤ 200 := by
                have := List.length_filter_le (fun x : EdT => x.id != (z : Int)) es
                omega
              have hpq := parts_in wr oJ 7500 7000 n _ (ends (es.filter fun x => x.id != (z : Int))) (RR.vwe.vwp fun x hx => ⟨(hRm x hx).1.1, (hRm x hx).2.1⟩) (by omega) (by omega) (by omega) (by rw [ends_len]; omega) (ends_lt hRm)
              rw [List.take_length]
              have hjI : ¬ ((es.length : Int) < (es.length : Int)) := by omega
              generalize hFF : es.filter (fun x => x.id != (z : Int)) = F at hpq RR hRl ⊢
              clear RR hRm
              go_wp2_with fail
              refine hpq.mono ?_
              rintro e2 wD ⟨gD, bD, oD, rfl, RD, ⟨CD, _⟩, sD⟩
              have HD := HR.step sD (by omega)
              have HKJ : Hid (bD u = bD v ↔ Jn (ends es) (fun i => i ≠ e) u v) := by
                show _ ↔ _
                rw [CD u v hu hv, ← hFF]
                exact cj_filter (G.ok hlen) he (by rw [HZ.out]; exact HE.out.2)
              obtain ⟨gx, capx, hvx, hgx, hcx, hmx, hltx, hcellx, hfrx⟩ := RD.pos (by omega)
              simp only [Value.slice.injEq, Option.some.injEq, Addr.mk.injEq, and_true, true_and] at hvx
              obtain ⟨rfl, hccx⟩ := hvx
              have du := (hcellx u (by omega)).trans (natsF_get bD hu)
              have dv := (hcellx v (by omega)).trans (natsF_get bD hv)
              obtain ⟨g2, c2', hv2, hg2, hcc2, hmm2, hlt2, hce2, _⟩ := HD.2.2.2.1.pos (by omega)
              simp only [Value.slice.injEq, Option.some.injEq, Addr.mk.injEq, and_true] at hv2
              obtain ⟨rfl, hq2⟩ := hv2
              have y0 := (hce2 k (by omega)).trans (intsL_get B k hkn)
              rw [← HZ.out] at y0
              clear hcellx hfrx RD CD hccx hpq sD HR hq2 hce2 hFF hgx hcx hmx hltx hg2 hcc2 hmm2 hlt2
              obtain ⟨eu, heu⟩ : ∃ x, x = bD u := ⟨_, rfl⟩
              obtain ⟨ev, hev⟩ : ∃ x, x = bD v := ⟨_, rfl⟩
              rw [← heu] at du HKJ
              rw [← hev] at dv HKJ
              clear heu hev
              by_cases heq : eu = ev
              · subst heq
                have WN : Hid (WOk es B u v (k + 1) (W ++ [z])) := by
                  have hy : ∀ e', e' < es.length → idn es e' = B[k] → Jn (ends es) (fun i => i ≠ e') u v := fun e' he' hi' => by
                    have : e' = e := by
                      have h0 := HE.out.1
                      rcases Nat.lt_trichotomy e' e with t | t | t
                      · have := idn_lt G.asc t he; omega
                      · exact t
                      · have := idn_lt G.asc t he'; omega
                    rw [this]; exact HKJ.out.1 rfl
                  have := WK.yes A9.1 hkn hy
                  rw [← HZ.out] at this
                  exact this
                obtain ⟨ii, hii, hzi0, hzi1, hzi2⟩ := info_parts infoInt
                clear WK HKJ HE HZ
                go_wp2_with fail
                go_quiet (fail)
                have HD' := HD.drew nq
                have y0' : (wD.drewN nq).cell? ⟨gb, k, none⟩ = some (.int .i64 (z : Nat)) := y0
                clear HD y0 du dv
                generalize wD.drewN nq = wQ at HD' y0' ⊢
                go_wp2_with (first | (at_builtin; refine wpList_append_lab rfl (.tmp 135) (.tmp 140) 39 rfl 3 ii (.int .i64 0) 1 8 Try.underlying39 hii hzi0 hzi1 hzi2 rfl (by decide) oD 6500 _ W.length (intsL W) rfl (HD'.2.2.2.2.1.step (allocStep (fun _ => False) _ oD _) (by simp)) ⟨wQ.heap.size, 0, none⟩ 1 1 [.int .i64 (z : Nat)] rfl rfl ?d1 ?d2 (by decide) ?d3 ?d4 ?_) | go_in)
                case d1 => exact new_one _ _ _
                case d2 => intro t ht; simp at ht; subst ht; rfl
                case d3 => unfold maxLen; omega
                case d4 => omega
                intro gS cS wS oS rS sS
                have sQS : Step (fun i => i = 6500) wQ oD wS oS := (allocStep _ wQ oD _).trans sS
                have HN : Hid (RiO w n es (.slice (some ⟨gl, 0, none⟩) es.length cl) q q2 B B2 bl bl2 (.slice (some ⟨gb, 0, none⟩) B.length cv') (.slice (some ⟨gS, 0, none⟩) (W.length + 1) cS) (W ++ [z]) wS oS) := by
                  obtain ⟨h1, h2, h3, h4, h5, h6⟩ := HD'
                  refine ⟨h1.step sQS (by omega), h2.step sQS (fun i hi x => by have := hi.2; omega), h3.step sQS (fun i hi x => by have := hi.2; omega), h4.step sQS (by omega), ?_, h6.trans (sQS.mono fun i hi => (show 0 < i by omega))⟩
                  rw [List.length_append, intsL_append]
                  exact rS
                clear rS sS sQS HD' y0'
                go_wp2
                go_roundg (B.length - (k + 1))
                case measure => omega
                case rel => exact ⟨k + 1, W ++ [z], oS, by omega, rfl, by go_num, WN.out, HN.out⟩
              · have heqI : ((eu : Int) == (ev : Int)) = false := by simp only [beq_eq_false_iff_ne, ne_eq]; omega
                have WN : Hid (WOk es B u v (k + 1) W) := WK.no hkn he HE.out.1 (fun t => heq (HKJ.out.2 t))
                clear WK HKJ HE HZ y0
                go_wp2_with fail
                go_quiet (fail)
                have HN : Hid (RiO w n es (.slice (some ⟨gl, 0, none⟩) es.length cl) q q2 B B2 bl bl2 (.slice (some ⟨gb, 0, none⟩) B.length cv') (.slice aw W.length cw) W (wD.drewN nq) oD) := HD.drew nq
                clear HD du dv
                go_wp2
                go_roundg (B.length - (k + 1))
                case measure => omega
                case rel => exact ⟨k + 1, W, oD, by omega, rfl, by go_num, WN.out, HN.out⟩
        · obtain rfl : k = B.length := by omega
          have hBW : B2 = W := inc_ext _ _ A2.1 WK.1 fun i => by rw [HM.out.1, WK.2.1, List.take_length]
          subst hBW
          obtain ⟨_, hS2, hCt⟩ := HM.out
          have hkI : ¬ ((B.length : Int) < (B.length : Int)) := by omega
          obtain ⟨h1, h2, h3, h4, h5, h6⟩ := HK
          have hb2 := bridges_w wr oK 5000 q2 n 8000 B2 bl2 h3 (by omega)
          go_wp2_with fail
          refine hb2.mono ?_
          rintro e wS ⟨v8, o8, rfl, r8, s8⟩
          have V8 := r8.vw
          have VW := (h5.step s8 (by omega)).vw
          have h2' := h2.step s8 (fun i hi x => by have := hi.2; omega)
          have h3' := h3.step s8 (fun i hi x => by have := hi.2; omega)
          have hsm := same_w wS o8 o8 8000 6500 v8 _ B2 B2 V8 VW (by omega) (by omega)
          have hd : decide (B2 = B2) = true := by simp
          rw [hd] at hsm
          obtain ⟨av8, cv8, rfl⟩ := r8.form
          have S8 : Step Pos w o0 wS o8 := h6.trans (s8.mono fun i hi => (show 0 < i by omega))
          clear hb2 r8 V8 VW s8 h1 h2 h3 h4 h5 h6 hd WK A9 A2 HM
          go_wp2_with fail
          refine hsm.mono ?_
          rintro e wT ⟨rfl, sT⟩
          have h2T := h2'.step sT (fun _ _ h => h)
          have h3T := h3'.step sT (fun _ _ h => h)
          have ST : Step Pos w o0 wT o8 := S8.trans (sT.mono fun _ h => h.elim)
          have hsa := sameO_w wT o8 5000 q2 n u v B2 bl2 h3T hu hv hn64
          have hdd : decide (bl2 u = bl2 v) = true := by simp [hS2]
          rw [hdd] at hsa
          clear hsm h2' h3' S8 sT hdd hS2
          go_wp2_with fail
          refine hsa.mono ?_
          rintro e wU ⟨rfl, m, rfl⟩
          have hq1 := blocks_w (wT.drewN m) o8 3000 q n B bl h2T hn1 hn64
          have hq2 := blocks_w (wT.drewN m) o8 5000 q2 n B2 bl2 h3T hn1 hn64
          have hBel : Below w.heap.size w (wT.drewN m) := below_drew ST.old m
          have hle1 := cntB_le bl n
          have hle2 := cntB_le bl2 n
          obtain ⟨x, hx⟩ : ∃ x, x = cntB bl n := ⟨_, rfl⟩
          obtain ⟨y, hy⟩ : ∃ y, y = cntB bl2 n := ⟨_, rfl⟩
          rw [← hx] at hq1 hCt hle1
          rw [← hy] at hq2 hCt hle2
          have hEq : ((y : Int) == (x : Int) - ((B.length : Int) - (B2.length : Int))) = true := by rw [beq_iff_eq]; omega
          clear hsa h2T h3T ST hx hy
          generalize wT.drewN m = wV at hq1 hq2 hBel ⊢
          go_wp2_with fail
          refine hq2.mono ?_
          rintro e wX ⟨rfl, rfl⟩
          go_wp2_with fail
          refine hq1.mono ?_
          rintro e wY ⟨rfl, rfl⟩
          clear hq1 hq2
          go_wp2
          go_ret
          exact ⟨rfl, hBel⟩
    · have hbbI : ((bu : Int) != (bv : Int)) = true := by simp only [bne_iff_ne, ne_eq]; omega
      have hBel : ∀ m, Below w.heap.size w (w7.drewN m) := fun m => below_drew S7.old m
      clear R37 S7 HC G
      go_wp2_with fail
      go_quiet (fail)
      have hB := hBel nq
      clear hBel
      go_wp2
      go_ret
      exact ⟨rfl, hB⟩
end Go.Proofs.Ytkhjodihlkfkdaa
