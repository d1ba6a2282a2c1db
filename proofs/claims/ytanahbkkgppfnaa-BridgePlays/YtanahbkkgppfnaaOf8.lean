/- The oracle of a graph. -/
import Derived.Test.YtanahbkkgppfnaaAns8
import Derived.Test.YtanahbkkgppfnaaSrt8
import Derived.Deep.RegionHeld3
namespace Go.Proofs.Ytanahbkkgppfnaa
open Go.ChangeShapes Go.WideShapes Go.ChangeAt Go.RowKit
set_option linter.unusedVariables false

set_option maxRecDepth 100000 in
theorem of_w (HNW : NewWalkOk) (w : World) (o : Nat → Nat) (L n la : Nat) (vl : Value) (es : List EdT) (h : VwE w o la vl es) (hn1 : 1 ≤ n) (hn : n ≤ 64) (hes : es.length ≤ 192) (hla : la < L) (ok : OkE n es) :
    Calls Try.prog 7 #[.int .i64 (n : Nat), vl] w fun e w' => OfOut w o L n es e w' := by
  have HV : Hid (VwE w o la vl es) := h
  have HOK : Hid (OkE n es) := ok
  have HW : Hid NewWalkOk := HNW
  obtain ⟨al, cl, rfl, hcl, hml, hpl⟩ := h
  clear hpl ok HNW
  unfold maxLen at hml
  have i1 : ¬ ((n : Int) < 1) := by omega
  have i2 : ¬ ((64 : Int) < (n : Int)) := by omega
  have i3 : ¬ ((192 : Int) < (es.length : Int)) := by omega
  go_enter Try.func7, Try.ntmps7
  go_wp2_with fail
  go_loopg [23] es.length (fun gh vi wr => ∃ k o', k ≤ es.length ∧ gh = es.length - k ∧ vi = .int .i64 (k : Nat) ∧ Step (WL L) w o wr o')
  case atStart => exact ⟨0, o, by omega, by omega, by go_num, Step.refl _ _ _⟩
  case round =>
    obtain ⟨k, o', hk, rfl, rfl, sk⟩ := hrel
    have nWL : ¬ WL L la := fun h => by have := h.1; omega
    by_cases hkn : k < es.length
    · have hkI : (k : Int) < (es.length : Int) := by omega
      have HVr := HV.out.step sk nWL
      have HVk : VwE wr o' la (.slice al k cl) (es.take k) := by
        obtain ⟨ao', ca', hvv, r1, r2, hp⟩ := HVr
        simp only [Value.slice.injEq, true_and] at hvv
        obtain ⟨rfl, rfl⟩ := hvv
        have hlk : (es.take k).length = k := by simp; omega
        refine ⟨al, cl, by rw [hlk], by omega, r2, fun h0 => ?_⟩
        obtain ⟨g, off, r3, r4, r5, r6⟩ := hp (by omega)
        refine ⟨g, off, r3, r4, r5, fun j hj => ?_⟩
        rw [List.getElem_take]
        exact r6 j (by omega)
      obtain ⟨hr1, hr2⟩ := HOK.out k hkn
      obtain ⟨ao', ca', hvv, _, _, hp⟩ := HVr
      simp only [Value.slice.injEq, true_and] at hvv
      obtain ⟨rfl, rfl⟩ := hvv
      obtain ⟨gl, off, rfl, q1, q2, q3⟩ := hp (by omega)
      obtain ⟨x0, x1, x2, x3⟩ := q3 k hkn
      have z00 : Blk (wr.alloc (.cells #[.int .i64 0, .int .i64 0, .int .i64 0, .int .i64 0] 36)) (newLab wr o' (L + 8)) (L + 8) wr.heap.size (.cells #[.int .i64 0, .int .i64 0, .int .i64 0, .int .i64 0] 36 (0, 0)) := ⟨heap_alloc_new wr _, newLab_new (Nat.le_refl _)⟩
      obtain ⟨a0, a1, a2, a3, af⟩ := z00.cells4
      have A0 : Blk (wr.alloc (.cells #[.int .i64 es[k].id, .int .i64 es[k].u, .int .i64 es[k].v, .int .i64 es[k].wt] 36)) (newLab wr o' (L + 8)) (L + 8) wr.heap.size (.cells #[.int .i64 es[k].id, .int .i64 es[k].u, .int .i64 es[k].v, .int .i64 es[k].wt] 36 (0, 0)) := ⟨heap_alloc_new wr _, newLab_new (Nat.le_refl _)⟩
      have s0 := newStep (fun _ => False) wr o' (L + 8) (.cells #[.int .i64 es[k].id, .int .i64 es[k].u, .int .i64 es[k].v, .int .i64 es[k].wt] 36)
      have V1 := HVk.step s0 (fun h => h)
      have S1 : Step (WL L) w o _ _ := sk.trans (s0.mono fun _ h => h.elim)
      generalize hx : es[k] = x at hr1 hr2 x0 x1 x2 x3 A0 V1 S1 s0
      clear hp q3 z00 HVk sk s0 hx
      go_upto_region 6 with fail
      clear a0 a1 a2 a3 af x0 x1 x2 x3 q1 q2
      obtain ⟨b0, hb0⟩ : ∃ b0, b0 = wr.heap.size := ⟨_, rfl⟩
      rw [← hb0] at A0 ⊢
      generalize wr.alloc (.cells #[.int .i64 x.id, .int .i64 x.u, .int .i64 x.v, .int .i64 x.wt] 36) = w5 at A0 V1 S1 ⊢
      generalize newLab wr o' (L + 8) = o5 at A0 V1 S1
      clear hb0
      have hrt := fun wx ox => right_true wx ox 0 n x hr1 hn
      unfold edv at hrt
      have htw := fun wx ox hv => twice_false wx ox la 0 (.slice (some ⟨gl, off, none⟩) k cl) (es.take k) x.id hv hr2 (by simp; omega)
      obtain ⟨y0, y1, y2, y3, yf⟩ := A0.cells4
      have hkc : k ≤ cl := by omega
      have hkcI : (k : Int) ≤ (cl : Int) := by omega
      go_cut [39] (fun vb wx => vb = .bool false ∧ ∃ o', Step (WL L) w o wx o')
      case first =>
        go_wp2_with fail
        go_region_held3 (fun wx => wx.cell? ⟨b0, 0, none⟩ = some (.int .i64 x.id) ∧ wx.cell? ⟨b0, 1, none⟩ = some (.int .i64 x.u) ∧ wx.cell? ⟨b0, 2, none⟩ = some (.int .i64 x.v) ∧ wx.cell? ⟨b0, 3, none⟩ = some (.int .i64 x.wt)) (first | exact ⟨g0, g1, g2, g3⟩ | exact ⟨e0, e1, e2, e3⟩ | go_keep) (first | (go_at_call 16; refine (hrt _ o5).mono ?_; rintro e w6 ⟨rfl, o6, s6⟩; have s56 : Step (fun _ => False) w5 o5 w6 o6 := (Step.refl _ w5 o5).drew.trans s6; have A6 := A0.step s56 (fun h => h); have V6 := V1.step s56 (fun h => h); obtain ⟨e0, e1, e2, e3, ef⟩ := A6.cells4) | (go_at_call 17; refine (htw _ o6 V6).mono ?_; rintro e w7 ⟨rfl, o7, s7⟩; have A7 := A6.step s7 (fun h => h); obtain ⟨g0, g1, g2, g3, gf⟩ := A7.cells4))
        all_goals (
          have S7 : Hid (Step (WL L) w o w7 o7) := (S1.trans (s56.mono fun _ h => h.elim)).trans (s7.mono fun _ h => h.elim)
          go_wp2
          go_meet
          exact ⟨rfl, o7, S7.out⟩)
      case rest =>
        obtain ⟨rfl, o7, S7⟩ := hcut
        clear S1 A0 V1 hrt htw y0 y1 y2 y3 yf hr1 hr2
        go_wp2
        go_roundg (es.length - (k + 1))
        case measure => omega
        case rel => exact ⟨k + 1, o7, by omega, rfl, by go_num, S7⟩
    · obtain rfl : k = es.length := by omega
      have HVr := HV.out.step sk nWL
      have hnw := HW.out wr o' L n la _ es HVr hn1 hn hes hla (fun x hx => by
        obtain ⟨j, hj, rfl⟩ := List.getElem_of_mem hx
        have := (HOK.out j hj).1
        exact ⟨this.1.1, this.1.2, this.2.1.1, this.2.1.2⟩)
      clear HVr
      go_wp2_with fail
      refine hnw.mono ?_
      rintro e w1 ⟨p, o1, rfl, W1, s1⟩
      have hends : ∀ x, x ∈ ends es → x.1 < n ∧ x.2 < n := fun y hy => by
        obtain ⟨z, hz, rfl⟩ := List.mem_map.1 hy
        obtain ⟨j, hj, rfl⟩ := List.getElem_of_mem hz
        have := (HOK.out j hj).1
        have a1 := this.1.1; have a2 := this.1.2; have a3 := this.2.1.1; have a4 := this.2.1.2
        exact ⟨show es[j].u.toNat < n by omega, show es[j].v.toNat < n by omega⟩
      have HEN : Hid (∀ x, x ∈ ends es → x.1 < n ∧ x.2 < n) := hends
      have START : ∃ s o2, Wv w1 o2 L p n la es s.turns s ∧ s.path = [] ∧ (∀ x, x < 0 → 0 < s.tn x) ∧ Step (WL L) w o w1 o2 := ⟨st0 (ends es), o1, ⟨W1, Gv.begin hn (by rw [ends_len]; exact hes) hends, hla, fun x hx => by
        obtain ⟨j, hj, rfl⟩ := List.getElem_of_mem hx
        exact (HOK.out j hj).1.2.2.2.1⟩, rfl, fun x hx => by omega, sk.trans s1⟩
      clear hnw W1 s1 sk hends
      go_wp2_with fail
      go_loopg [45] n (fun gh vi wr => ∃ k s o2, k ≤ n ∧ gh = n - k ∧ vi = .int .i64 (k : Nat) ∧ Wv wr o2 L p n la es s.turns s ∧ s.path = [] ∧ (∀ x, x < k → 0 < s.tn x) ∧ Step (WL L) w o wr o2)
      case atStart => obtain ⟨s, o2, a, b, c, d⟩ := START; exact ⟨0, s, o2, by omega, by omega, by go_num, a, b, c, d⟩
      case round =>
        clear START
        obtain ⟨k, s, o2, hk2, rfl, rfl, WV, P2, M2, S2⟩ := hrel
        by_cases hkn2 : k < n
        · have hkI : (k : Int) < (n : Int) := by omega
          have hsn := seen_w wr o2 L p n la es s k WV.1 hn hkn2
          go_wp2_with fail
          refine hsn.mono ?_
          rintro e w3 ⟨rfl, rfl⟩
          clear hsn
          by_cases ht0 : 0 < s.tn k
          · have hdt : decide (0 < s.tn k) = true := by simp [ht0]
            have HN : Hid ((∃ s', Wv w3 o2 L p n la es s'.turns s' ∧ s'.path = [] ∧ (∀ x, x < k + 1 → 0 < s'.tn x)) ∧ Step (WL L) w o w3 o2) := ⟨⟨s, WV, P2, fun x hx => if q : x = k then q ▸ ht0 else M2 x (by omega)⟩, S2⟩
            clear WV P2 M2 S2
            go_wp2
            go_roundg (n - (k + 1))
            case measure => omega
            case rel => obtain ⟨⟨s', a, b, c⟩, d⟩ := HN.out; exact ⟨k + 1, s', o2, by omega, rfl, by go_num, a, b, c, d⟩
          · have hdt : decide (0 < s.tn k) = false := by simp [ht0]
            have hth := through_v w3 o2 L p n la es s k WV P2 hkn2 (by omega)
            have HM : Hid ((∀ x, x < k → 0 < s.tn x) ∧ Step (WL L) w o w3 o2) := ⟨M2, S2⟩
            clear WV P2 M2 S2
            go_wp2_with fail
            refine hth.mono ?_
            rintro e w4 ⟨rfl, s', ⟨o4, V4, M4, S4⟩, P4⟩
            have HN : Hid ((∃ s', Wv w4 o4 L p n la es s'.turns s' ∧ s'.path = [] ∧ (∀ x, x < k + 1 → 0 < s'.tn x)) ∧ Step (WL L) w o w4 o4) := ⟨⟨s', ⟨V4.1, V4.2.1.next P4, V4.2.2⟩, P4, fun x hx => M4 x (if q : x = k then .inr q else .inl (HM.out.1 x (by omega)))⟩, HM.out.2.trans S4⟩
            clear V4 M4 S4 P4 hth HM
            go_wp2
            go_roundg (n - (k + 1))
            case measure => omega
            case rel => obtain ⟨⟨s', a, b, c⟩, d⟩ := HN.out; exact ⟨k + 1, s', o4, by omega, rfl, by go_num, a, b, c, d⟩
        · obtain rfl : k = n := by omega
          obtain ⟨⟨gp, cp, gb, cb, vp, vo, ve, vr, vs, h1, h2, h3, h4, h5, h6, h7, h8⟩, G, _, _⟩ := WV
          have hbl : s.br.length ≤ 192 := G.bounds.2.2.2.1
          have HT : Hid (Told8 (ends es) k s.br s.bl) := by
            obtain ⟨⟨anc, D⟩, _⟩ := G
            exact D.done P2 HEN.out M2
          obtain ⟨ar, cr, rfl⟩ := h7.form
          have h7' : Row wr o2 (L + 4) 3 1 (.slice ar (s.br.map (idn es)).length cr) (s.br.map (idn es)).length (intsL (s.br.map (idn es))) := by rw [List.length_map]; exact h7
          have hso := sort_in wr o2 (L + 4) (s.br.map (idn es)) ar cr h7' (by rw [List.length_map]; exact hbl)
          simp only [List.length_map] at hso
          obtain ⟨c0, c1, c2, c3, c4, c5, c6, hf⟩ := h1.cells7
          have HB : Hid (Blk wr o2 L p (.cells #[.slice (some ⟨gp, 0, none⟩) k cp, .int .i64 (s.turns : Nat), vp, vo, ve, .slice ar s.br.length cr, .slice (some ⟨gb, 0, none⟩) k cb] 56 (0, 0)) ∧ Row wr o2 (L + 5) 3 1 (.slice (some ⟨gb, 0, none⟩) k cb) k (natsF s.bl k)) := ⟨h1, h8⟩
          clear h1 h2 h3 h4 h5 h6 h7 h8 h7' G P2 M2
          go_wp2_with fail
          refine hso.mono ?_
          rintro e w3 ⟨rfl, o3, B, R3, hp3, hs3, s3⟩
          have HA : Hid (Ans k es B s.bl) := Ans.of HT.out HOK.out hp3 hs3
          obtain ⟨hB1, hB2⟩ := HB.out
          have B4 := hB1.step s3 (by omega)
          have R4 := hB2.step s3 (by omega)
          obtain ⟨d0, d1, d2, d3, d4, d5, d6, df⟩ := B4.cells7
          have S4 : Hid (Step (WL L) w o w3 o3) := S2.trans (s3.mono fun _ h => ⟨by omega, by omega⟩)
          have s5 := (newStep (fun _ => False) w3 o3 (L + 9) (.cells #[.slice ar s.br.length cr, .slice (some ⟨gb, 0, none⟩) k cb] 58)).drew
          have RES : OfOut w o L k es (.returned (.tuple #[.pointer (some ⟨w3.heap.size, 0, none⟩), .int .i64 0])) (w3.alloc (.cells #[.slice ar s.br.length cr, .slice (some ⟨gb, 0, none⟩) k cb] 58)).drew :=
            ⟨w3.heap.size, _, B, s.bl, rfl, ⟨_, gb, cb, ⟨heap_alloc_new w3 _, newLab_new (Nat.le_refl _)⟩, R3.step s5 (fun h => h), R4.step s5 (fun h => h)⟩, HA.out, S4.out.trans (s5.mono fun _ h => h.elim)⟩
          clear s5 S4 s3 R3 R4 B4 hB1 hB2 HB HA hso hp3 hs3 HT S2 c0 c1 c2 c3 c4 c5 c6 hf
          go_wp2
          go_region
          go_wp2
          go_ret2
          exact RES
end Go.Proofs.Ytanahbkkgppfnaa
