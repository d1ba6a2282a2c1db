/- The law BridgeHolds: the walk. -/
import Derived.Test.YtkhjodihlkfkdaaHoldsM
import Derived.Test.YtkhjodihlkfkdaaApp0
namespace Go.Proofs.Ytkhjodihlkfkdaa
open Go.ChangeShapes Go.WideShapes Go.ChangeAt Go.RowKit
set_option linter.unusedVariables false

/-- What stands in memory from round to round. -/
def HoS (w : World) (n : Nat) (es : List EdT) (vl : Value) (q : Nat) (B : List Nat) (bl : Nat → Nat) (wr : World) : Prop :=
  ∃ o', Row wr o' 2000 42 4 vl es.length (eev es) ∧ Or8 wr o' 3000 q n B bl ∧ Step Pos w o0 wr o'

set_option maxRecDepth 100000 in
set_option maxHeartbeats 8000000 in
theorem holds_walk (w : World) (c0 c2 c3 : Int) (a1 : Option Addr) (len1 cap1 : Nat) (f1 : Nat → Int × Int) (ha1 : ArgP w o0 a1 len1 f1) (hlen : len1 ≤ 1048576) (hc0 : i64 c0) (hc2 : i64 c2) (hc3 : i64 c3) :
    Calls Try.prog 5 #[.int .i64 c0, .slice a1 len1 cap1, .int .i64 c2, .int .i64 c3] w fun e w' => e = .returned (.bool true) ∧ Below w.heap.size w w' := by
  have hw1 := awake_w w o0 1000 (by omega)
  have hp0 := fun wx => pick_any c0 64 wx hc0.1 hc0.2 (by omega) (by omega)
  go_enter Try.func5, Try.ntmps5
  go_wp2_with fail
  refine hw1.mono ?_
  rintro e w1 ⟨rfl, o1, s1⟩
  have S1 : Step Pos w o0 w1 o1 := s1.mono fun k hk => (show 0 < k by omega)
  clear hw1 s1
  go_wp2_with fail
  refine (hp0 _).mono ?_
  rintro e w2 ⟨r, hr, rfl, rfl⟩
  clear hp0
  obtain ⟨n, hn⟩ : ∃ n, n = r + 1 := ⟨_, rfl⟩
  have hnI : (1 : Int) + (r : Int) = (n : Int) := by omega
  have hn1 : 1 ≤ n := by omega
  have hn64 : n ≤ 64 := by omega
  clear hn
  have hgr := graph_w w2 o1 2000 n len1 cap1 100 a1 f1 (ha1.step S1 (fun h => by simp [Pos] at h)) (by omega) (by omega) (by omega) hlen (by omega) (by omega)
  go_wp2_with fail
  refine hgr.mono ?_
  rintro e w3 ⟨vl, es, o3, rfl, R3, hes, G, s3⟩
  have S3 : Step Pos w o0 w3 o3 := S1.trans (s3.mono fun k hk => (show 0 < k by omega))
  have hof := of_w newWalk_ok w3 o3 3000 n 2000 vl es R3.vwe (by omega) (by omega) (by omega) (by omega) (G.ok hlen)
  obtain ⟨al, cl, rfl⟩ := R3.form
  clear hgr s3 S1 hnI hr
  go_wp2_with fail
  refine hof.mono ?_
  rintro e w4 ⟨q, o4, B, bl, rfl, R4, A4, s4⟩
  have S4 : Step Pos w o0 w4 o4 := S3.trans (s4.mono fun k hk => (show 0 < k by have := hk.1; omega))
  have L4 := R3.step s4 (fun h => by have := h.1; omega)
  have H4 : HoS w n es (.slice al es.length cl) q B bl w4 := ⟨o4, L4, R4, S4⟩
  clear hof s4 S3 R3
  have hp2 := fun wx => pick_any c2 n wx hc2.1 hc2.2 (by omega) (by omega)
  have hp3 := fun wx => pick_any c3 n wx hc3.1 hc3.2 (by omega) (by omega)
  go_wp2_with fail
  refine (hp2 _).mono ?_
  rintro e w5 ⟨u, hu, rfl, rfl⟩
  go_wp2_with fail
  refine (hp3 _).mono ?_
  rintro e w6 ⟨v, hv, rfl, rfl⟩
  clear hp2 hp3
  have hpt := parts_in w6 o4 4000 2000 n _ (ends es) (L4.vwe.vwp fun x hx => ⟨(G.1 x hx).1.1, (G.1 x hx).2.1.1⟩) (by omega) (by omega) (by omega) (by rw [ends_len]; omega) (ends_lt fun x hx => ⟨(G.1 x hx).1, (G.1 x hx).2.1⟩)
  go_wp2_with fail
  refine hpt.mono ?_
  rintro e w7 ⟨g7, b7, o7, rfl, R7, C7, s7⟩
  have H7 : HoS w n es (.slice al es.length cl) q B bl w7 := ⟨o7, L4.step s7 (by omega), R4.step s7 (fun k hk h => by have := hk.2; omega), S4.trans (s7.mono fun k hk => (show 0 < k by omega))⟩
  clear hpt s7 L4 R4 S4 H4
  obtain ⟨g, cap, hv7, hg7, hc7, hm7, hlt7, hcell7, hfr7⟩ := R7.pos (by omega)
  simp only [Value.slice.injEq, Option.some.injEq, Addr.mk.injEq, and_true, true_and] at hv7
  obtain ⟨rfl, hcc⟩ := hv7
  have cu := (hcell7 u (by omega)).trans (natsF_get b7 hu)
  have cv := (hcell7 v (by omega)).trans (natsF_get b7 hv)
  have huI : (u : Int) < (n : Int) := by omega
  have hvI : (v : Int) < (n : Int) := by omega
  have HC : Hid (b7 u = b7 v ↔ Cj (ends es) u v) := C7.1 u v hu hv
  clear hcell7 hfr7 R7 C7 hcc
  obtain ⟨bu, hbu⟩ : ∃ x, x = b7 u := ⟨_, rfl⟩
  obtain ⟨bv, hbv⟩ : ∃ x, x = b7 v := ⟨_, rfl⟩
  rw [← hbu] at cu HC
  rw [← hbv] at cv HC
  clear hbu hbv
  go_wp2_with fail
  go_quiet (fail)
  have H8 : HoS w n es (.slice al es.length cl) q B bl (w7.drewN nq) := by
    obtain ⟨o', x1, x2, x3⟩ := H7
    exact ⟨o', x1, x2, x3.drewN nq⟩
  have START : ∃ b : Bool, ((bu : Int) == (bv : Int)) = b ∧ HoldIs es u v 0 b := by
    refine ⟨_, rfl, ?_⟩
    unfold HoldIs
    rw [← HC.out]
    constructor
    · intro h; exact ⟨by have := beq_iff_eq.1 h; omega, fun j hj => by omega⟩
    · intro h; rw [beq_iff_eq]; omega
  obtain ⟨b0, hb0, HH0⟩ := START
  rw [hb0]
  clear H7 hb0 HC cu cv hg7 hc7 hm7 hlt7
  generalize w7.drewN nq = w8 at H8 ⊢
  go_wp2_with fail
  go_loopg [14, 15] es.length (fun gh vb vi wr => ∃ k b, k ≤ es.length ∧ gh = es.length - k ∧ vi = .int .i64 (k : Nat) ∧ vb = .bool b ∧ HoldIs es u v k b ∧ HoS w n es (.slice al es.length cl) q B bl wr)
  case atStart => exact ⟨0, b0, by omega, by omega, by go_num, rfl, HH0, H8⟩
  case round =>
    clear H8 HH0
    obtain ⟨k, b, hk, rfl, rfl, rfl, HB, o9, L9, R9, S9⟩ := hrel
    by_cases hkn : k < es.length
    · have hkI : (k : Int) < (es.length : Int) := by omega
      obtain ⟨gl, cl', hvl, hgl, hcl, hml, hltl, _, _⟩ := L9.pos (by omega)
      simp only [Value.slice.injEq] at hvl
      obtain ⟨rfl, _, rfl⟩ := hvl
      obtain ⟨ie, hie, hze0, hze1, hze2⟩ := info_parts infoEdge
      have hkc : k ≤ cl := by omega
      have hkcI : (k : Int) ≤ (cl : Int) := by omega
      have hk1c : k + 1 ≤ cl := by omega
      have hLt : (es.take k).length = k := by rw [List.length_take]; omega
      have hLd : (es.drop (k + 1)).length = es.length - (k + 1) := by rw [List.length_drop]
      have hspl : es = [] ++ (es.take k ++ es.drop k) := by rw [List.nil_append, List.take_append_drop]
      have hspl2 : es = es.take (k + 1) ++ (es.drop (k + 1) ++ []) := by rw [List.append_nil, List.take_append_drop]
      have n1 := eev_cells L9 hspl
      have n2 := fun {w' : World} {o' : Nat → Nat} (h : Row w' o' 2000 42 4 (.slice (some ⟨gl, 0, none⟩) es.length cl) es.length (eev es)) => eev_cells h hspl2
      rw [List.length_take, Nat.min_eq_left (by omega)] at n2
      clear hspl hspl2
      unfold maxLen at hml
      go_upto_region 15 with fail
      go_cut [16] (fun vr wx => ∃ o', Row wx o' 5000 42 4 vr k (eev (es.take k)) ∧ Step (fun j => j = 5000) wr o9 wx o')
      case first =>
        by_cases hk0 : k = 0
        · subst hk0
          have HR : ∃ o', Row wr o' 5000 42 4 (.slice none 0 0) 0 (eev (es.take 0)) ∧ Step (fun j => j = 5000) wr o9 wr o' := ⟨o9, Row.nil _ _ _ _ _, Step.refl _ _ _⟩
          clear L9 R9 S9 n1 n2
          go_wp2
          go_meet
          exact HR
        · clear R9 S9 n2
          go_wp2_with (first | (at_builtin; refine wpList_append_lab rfl (.tmp 71) (.tmp 74) 22 rfl 42 ie (.agg #[.int .i64 0, .int .i64 0, .int .i64 0, .int .i64 0]) 4 32 Try.underlying22 hie hze0 hze1 hze2 rfl (by decide) o9 5000 _ 0 [] rfl (Row.nil _ _ _ _ _) ⟨gl, 0, none⟩ k cl (eev (es.take k)) rfl ?c1 n1 (eev_one _) (by omega) ?c3 ?c4 ?_) | go_in)
          case c1 => rw [eev_len, hLt]
          case c3 => unfold maxLen; omega
          case c4 => omega
          intro g7 c7 w7' o7' r7 s7
          have HR : ∃ o', Row w7' o' 5000 42 4 (.slice (some ⟨g7, 0, none⟩) (0 + k) c7) k (eev (es.take k)) ∧ Step (fun j => j = 5000) wr o9 w7' o' := by
            refine ⟨o7', ?_, s7⟩
            simp only [Nat.zero_add] at r7 ⊢
            exact r7
          clear r7 s7 L9 n1
          simp only [Nat.zero_add] at HR ⊢
          go_wp2
          go_meet
          exact HR
      case rest =>
      obtain ⟨oA, RA, sA⟩ := hcut
      have LA := L9.step sA (by omega)
      have ORA := R9.step sA (fun j hj h => by have := hj.2; omega)
      have SA : Step Pos w o0 wc oA := S9.trans (sA.mono fun j hj => (show 0 < j by omega))
      have nA := n2 LA
      obtain ⟨ar, cr, rfl⟩ := RA.form
      clear n1 n2 L9 R9 S9 sA
      generalize wc = wA at LA ORA SA nA RA ⊢
      go_upto_region 16 with fail
      go_cut [16] (fun vr wx => ∃ o', Row wx o' 5000 42 4 vr (es.take k ++ es.drop (k + 1)).length (eev (es.take k ++ es.drop (k + 1))) ∧ Step (fun j => j = 5000) wA oA wx o')
      case first =>
        by_cases hkl : k + 1 = es.length
        · have HR : ∃ o', Row wA o' 5000 42 4 (.slice ar k cr) (es.take k ++ es.drop (k + 1)).length (eev (es.take k ++ es.drop (k + 1))) ∧ Step (fun j => j = 5000) wA oA wA o' := by
            refine ⟨oA, ?_, Step.refl _ _ _⟩
            have e : es.drop (k + 1) = [] := List.drop_eq_nil_of_le (by omega)
            rw [e, List.append_nil, hLt]
            exact RA
          have hkkI : (k : Int) + 1 ≤ (es.length : Int) := by omega
          have hz0 : es.length - (k + 1) = 0 := by omega
          have hkcr : k ≤ cr := by
            rcases RA.1.2 with ⟨hh, hk0⟩ | ⟨gx, cx, _, hh, _, _, hle, _⟩
            · omega
            · simp only [Value.slice.injEq] at hh
              obtain ⟨_, _, rfl⟩ := hh
              exact hle
          clear LA ORA SA nA RA hLt hLd hkl
          by_cases hcq : cl = k + 1
          · have hcq' : k + 1 = cl := hcq.symm
            have hz1 : es.length - cl = 0 := by omega
            clear hcq hz0 hkc hk1c hcl
            go_wp2_with (first | (at_builtin; refine wpList_append_zero rfl (.tmp 76) (.tmp 80) 22 rfl 42 ie Try.underlying22 hie ar k cr _ _ rfl rfl hkcr ?_) | go_in)
            go_wp2
            go_meet
            exact HR
          · go_wp2_with (first | (at_builtin; refine wpList_append_zero rfl (.tmp 76) (.tmp 80) 22 rfl 42 ie Try.underlying22 hie ar k cr _ _ rfl rfl hkcr ?_) | go_in)
            go_wp2
            go_meet
            exact HR
        · have hz : es.length - (k + 1) ≠ 0 := by omega
          have hcn : ¬ (cl = k + 1) := by omega
          have hkkI : (k : Int) + 1 ≤ (es.length : Int) := by omega
          clear ORA SA
          go_wp2_with (first | (at_builtin; refine wpList_append_lab rfl (.tmp 76) (.tmp 80) 22 rfl 42 ie (.agg #[.int .i64 0, .int .i64 0, .int .i64 0, .int .i64 0]) 4 32 Try.underlying22 hie hze0 hze1 hze2 rfl (by decide) oA 5000 _ k (eev (es.take k)) rfl RA ⟨gl, (k + 1) * 4, none⟩ (es.length - (k + 1)) _ (eev (es.drop (k + 1))) rfl ?c1 nA (eev_one _) (by omega) ?c3 ?c4 ?_) | go_in)
          case c1 => rw [eev_len, hLd]
          case c3 => unfold maxLen; omega
          case c4 => omega
          intro g8 c8 w8' o8' r8 s8
          have HR : ∃ o', Row w8' o' 5000 42 4 (.slice (some ⟨g8, 0, none⟩) (k + (es.length - (k + 1))) c8) (es.take k ++ es.drop (k + 1)).length (eev (es.take k ++ es.drop (k + 1))) ∧ Step (fun j => j = 5000) wA oA w8' o' := by
            refine ⟨o8', ?_, s8⟩
            rw [List.length_append, hLt, hLd, eev_append]
            exact r8
          clear r8 s8 LA nA RA
          go_wp2
          go_meet
          exact HR
      case rest =>
      obtain ⟨oC, RC, sC⟩ := hcut
      have LC := LA.step sC (by omega)
      have ORC := ORA.step sC (fun j hj h => by have := hj.2; omega)
      have SC : Step Pos w o0 wc oC := SA.trans (sC.mono fun j hj => (show 0 < j by omega))
      have hlr : (es.take k ++ es.drop (k + 1)).length ≤ 200 := by rw [List.length_append, hLt, hLd]; omega
      have hpq := parts_in wc oC 6000 5000 n _ (ends (es.take k ++ es.drop (k + 1))) (RC.vwe.vwp fun x hx => ⟨(G.rest x hx).1.1, (G.rest x hx).2.1⟩) (by omega) (by omega) (by omega) (by rw [ends_len]; omega) (ends_lt fun x hx => G.rest x hx)
      obtain ⟨arr, crr, rfl⟩ := RC.form
      clear LA ORA SA nA RA sC hLt hLd
      generalize hLen : (es.take k ++ es.drop (k + 1)).length = ml at *
      go_wp2_with fail
      refine hpq.mono ?_
      rintro e wD ⟨gD, bD, oD, rfl, RD, CD, sD⟩
      have LD := LC.step sD (by omega)
      have ORD := ORC.step sD (fun j hj h => by have := hj.2; omega)
      have SD : Step Pos w o0 wD oD := SC.trans (sD.mono fun j hj => (show 0 < j by omega))
      have HK : Hid (bD u = bD v ↔ Jn (ends es) (fun i => i ≠ k) u v) := by
        show _ ↔ _
        rw [CD.1 u v hu hv, ends_rest, cj_rest]
      obtain ⟨gx, capx, hvx, hgx, hcx, hmx, hltx, hcellx, hfrx⟩ := RD.pos (by omega)
      simp only [Value.slice.injEq, Option.some.injEq, Addr.mk.injEq, and_true, true_and] at hvx
      obtain ⟨rfl, hccx⟩ := hvx
      have du := (hcellx u (by omega)).trans (natsF_get bD hu)
      have dv := (hcellx v (by omega)).trans (natsF_get bD hv)
      clear hcellx hfrx RD CD hccx hpq LC ORC SC sD RC hlr hLen
      obtain ⟨eu, heu⟩ : ∃ x, x = bD u := ⟨_, rfl⟩
      obtain ⟨ev, hev⟩ : ∃ x, x = bD v := ⟨_, rfl⟩
      rw [← heu] at du HK
      rw [← hev] at dv HK
      clear heu hev
      have HNEXT : Hid (∀ nq, ∃ c : Bool, ((eu : Int) == (ev : Int)) = c ∧ HoldIs es u v (k + 1) (b && c) ∧ HoS w n es (.slice (some ⟨gl, 0, none⟩) es.length cl) q B bl (wD.drewN nq)) := fun nq => by
        refine ⟨_, rfl, HB.step ?_, oD, LD, ORD, SD.drewN nq⟩
        rw [← HK.out, beq_iff_eq]
        constructor
        · intro h; omega
        · intro h; omega
      clear HK LD ORD SD HB
      cases b with
      | true =>
        go_wp2_with fail
        go_quiet (fail)
        obtain ⟨c, hc, hN⟩ := HNEXT.out nq
        rw [hc]
        rw [Bool.true_and] at hN
        have HN : Hid (HoldIs es u v (k + 1) c ∧ HoS w n es (.slice (some ⟨gl, 0, none⟩) es.length cl) q B bl (wD.drewN nq)) := hN
        clear hN hc HNEXT du dv
        go_wp2
        go_roundg (es.length - (k + 1))
        case measure => omega
        case rel => exact ⟨k + 1, c, by omega, rfl, by go_num, rfl, HN.out.1, HN.out.2⟩
      | false =>
        go_wp2_with fail
        go_quiet (fail)
        obtain ⟨c, hc, hN⟩ := HNEXT.out nq
        rw [Bool.false_and] at hN
        have HN : Hid (HoldIs es u v (k + 1) false ∧ HoS w n es (.slice (some ⟨gl, 0, none⟩) es.length cl) q B bl (wD.drewN nq)) := hN
        clear hN hc HNEXT du dv
        go_wp2
        go_roundg (es.length - (k + 1))
        case measure => omega
        case rel => exact ⟨k + 1, false, by omega, rfl, by go_num, rfl, HN.out.1, HN.out.2⟩
    · obtain rfl : k = es.length := by omega
      have HD : Hid (decide (bl u = bl v) = b ∧ bl u ≤ u ∧ bl v ≤ v) := ⟨HoldIs.done A4 hu hv HB, (A4.2.2.1 u hu).1, (A4.2.2.1 v hv).1⟩
      have hsa := sameO_w wr o9 3000 q n u v B bl R9 hu hv hn64
      have hbb := fun m x hx => block_w (wr.drewN m) o9 3000 q n x B bl R9 hx hn64
      have HS : Hid (Step Pos w o0 wr o9) := S9
      clear L9 R9 S9 HB A4 G
      rw [HD.out.1] at hsa
      go_wp2_with fail
      refine hsa.mono ?_
      rintro e wE ⟨rfl, m, rfl⟩
      clear hsa
      have h1 := hbb m u hu
      have h2 := hbb m v hv
      obtain ⟨x, hx⟩ : ∃ x, x = bl u := ⟨_, rfl⟩
      obtain ⟨y, hy⟩ : ∃ y, y = bl v := ⟨_, rfl⟩
      rw [← hx] at h1 HD
      rw [← hy] at h2 HD
      clear hx hy hbb
      go_wp2_with fail
      refine h1.mono ?_
      rintro e wF ⟨rfl, rfl⟩
      go_wp2_with fail
      refine h2.mono ?_
      rintro e wG ⟨rfl, rfl⟩
      obtain ⟨d1, d2, d3⟩ := HD.out
      have dI2 : (x : Int) ≤ (u : Int) := by omega
      have dI3 : (y : Int) ≤ (v : Int) := by omega
      have hBl : Below w.heap.size w (wr.drewN m) := below_drew HS.out.old m
      clear HS h1 h2 HD
      cases b with
      | true =>
        have hxy : x = y := by simpa using d1
        subst hxy
        clear d1
        go_wp2
        go_ret
        exact ⟨rfl, hBl⟩
      | false =>
        have hxy : ¬ x = y := by simpa using d1
        have hxyI : ((x : Int) == (y : Int)) = false := by simp only [beq_eq_false_iff_ne, ne_eq]; omega
        clear d1
        go_wp2
        go_ret
        exact ⟨rfl, hBl⟩
end Go.Proofs.Ytkhjodihlkfkdaa
