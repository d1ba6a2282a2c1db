/- The document's own oracle of a graph. -/
import Derived.Test.YtanahbkkgppfnaaMay8
import Derived.Test.YtanahbkkgppfnaaRefO
import Derived.Test.YtanahbkkgppfnaaLent8
import Derived.Test.YtanahbkkgppfnaaParts8
namespace Go.Proofs.Ytanahbkkgppfnaa
open Go.ChangeShapes Go.WideShapes Go.ChangeAt Go.RowKit
set_option linter.unusedVariables false
set_option linter.unusedSimpArgs false

theorem drewN_two (w : World) (m k : Nat) : (w.drewN m).drewN k = w.drewN (m + k) := by
  unfold World.drewN
  simp only [Nat.add_assoc]
/-- A stretch of edges that are only read, cell by cell. -/
theorem VwE.part {w : World} {o : Nat → Nat} {i g off len cap : Nat} {es A M Z : List EdT} (h : VwE w o i (.slice (some ⟨g, off, none⟩) len cap) es) (hl : es = A ++ (M ++ Z)) : ∀ j u, (eev M)[j]? = some u → w.cell? ((⟨g, off + A.length * 4, none⟩ : Addr).add j) = some u := by
  intro j u hj
  have hjl := (List.getElem?_eq_some_iff.1 hj).1
  rw [eev_len] at hjl
  have hll : es.length = A.length + (M.length + Z.length) := by rw [hl]; simp
  obtain ⟨ad, had, hc⟩ := h.cells (by omega)
  injection had with had
  subst had
  have hx : (eev es)[A.length * 4 + j]? = some u := by
    rw [hl, eev_append, eev_append, List.getElem?_append_right (by rw [eev_len]; omega), eev_len, show A.length * 4 + j - A.length * 4 = j by omega, List.getElem?_append_left (by rw [eev_len]; omega)]
    exact hj
  have := hc _ _ hx
  have e : (⟨g, off, none⟩ : Addr).add (A.length * 4 + j) = (⟨g, off + A.length * 4, none⟩ : Addr).add j := by
    unfold Addr.add
    by_cases j0 : j = 0
    · subst j0
      by_cases a0 : A.length * 4 = 0
      · simp [a0]
      · simp [a0]
    · simp [j0, show A.length * 4 + j ≠ 0 by omega]; omega
  rw [← e]
  exact this
theorem refOf_arg (w : World) (n : Int) (al : Option Addr) (len cl : Nat) (hn0 : -9223372036854775808 ≤ n) (hn9 : n ≤ 9223372036854775807) (hl : len ≤ 1000000) (h : n < 1 ∨ 64 < n ∨ 192 < len) :
    Calls Try.prog 5 #[.int .i64 n, .slice al len cl] w fun e w' => e = .returned (.tuple #[.pointer none, .int .i64 1]) ∧ w' = w := by
  by_cases h1 : n < 1
  · clear h
    go_enter Try.func5, Try.ntmps5
    go_wp2
    go_ret2
    exact ⟨rfl, rfl⟩
  · by_cases h2 : 64 < n
    · clear h
      go_enter Try.func5, Try.ntmps5
      go_wp2
      go_ret2
      exact ⟨rfl, rfl⟩
    · have h3 : (192 : Int) < (len : Int) := by omega
      clear h
      go_enter Try.func5, Try.ntmps5
      go_wp2
      go_ret2
      exact ⟨rfl, rfl⟩
def RBadOut (w : World) (o : Nat → Nat) (e : Ending) (w' : World) : Prop := ∃ o', e = .returned (.tuple #[.pointer none, .int .i64 81]) ∧ Step (fun _ => False) w o w' o'
set_option maxRecDepth 100000 in
theorem refOf_bad (w : World) (o : Nat → Nat) (n la : Nat) (vl : Value) (es : List EdT) (h : VwE w o la vl es) (hn1 : 1 ≤ n) (hn : n ≤ 64) (hes : es.length ≤ 192) (hbad : ¬ OkE n es) :
    Calls Try.prog 5 #[.int .i64 (n : Nat), vl] w fun e w' => RBadOut w o e w' := by
  have HV : Hid (VwE w o la vl es) := h
  have HBAD : Hid (¬ OkE n es) := hbad
  obtain ⟨al, cl, rfl, hcl, hml, hpl⟩ := h
  clear hpl hbad
  have i1 : ¬ ((n : Int) < 1) := by omega
  have i2 : ¬ ((64 : Int) < (n : Int)) := by omega
  have i3 : ¬ ((192 : Int) < (es.length : Int)) := by omega
  go_enter Try.func5, Try.ntmps5
  go_wp2_with fail
  go_loopg [6] es.length (fun gh vi wr => ∃ k o', k ≤ es.length ∧ gh = es.length - k ∧ vi = .int .i64 (k : Nat) ∧ (∀ j, j < k → OkAt n es j) ∧ Step (fun _ => False) w o wr o')
  case atStart => exact ⟨0, o, by omega, by omega, by go_num, fun j hj => by omega, Step.refl _ _ _⟩
  case round =>
    obtain ⟨k, o', hk, rfl, rfl, hok, sk⟩ := hrel
    by_cases hkn : k < es.length
    · have hkI : (k : Int) < (es.length : Int) := by omega
      have hmy := may_w wr o' la n k _ es (HV.out.step sk (fun h => h)) hn hkn hes
      go_wp2_with fail
      refine hmy.mono ?_
      rintro e w1 ⟨b, o1, rfl, hb, s1⟩
      clear hmy
      cases b with
      | true =>
        have HN : Hid ((∀ j, j < k + 1 → OkAt n es j) ∧ Step (fun _ => False) w o w1 o1) := ⟨fun j hj => by
          by_cases q : j = k
          · subst q; exact hb.1 rfl
          · exact hok j (by omega), sk.trans s1⟩
        clear hok sk s1 hb
        go_wp2
        go_roundg (es.length - (k + 1))
        case measure => omega
        case rel => exact ⟨k + 1, o1, by omega, rfl, by go_num, HN.out.1, HN.out.2⟩
      | false =>
        have HF : Hid (RBadOut w o (.returned (.tuple #[.pointer none, .int .i64 81])) w1) := ⟨o1, rfl, sk.trans s1⟩
        clear hok sk s1 hb
        go_wp2
        go_ret2
        exact HF.out
    · obtain rfl : k = es.length := by omega
      exact absurd (okE_at hok) HBAD.out
/-- What stands in memory from edge to edge. -/
def RfS (w : World) (o : Nat → Nat) (L la q n : Nat) (vl : Value) (es : List EdT) (k : Nat) (vf : Value) (wr : World) : Prop :=
  ∃ fs il vr lI o', FmL es k fs ∧ BrL es k il ∧ (L + 100 ≤ lI ∧ lI ≤ L + 100 + k) ∧ Row wr o' (L + 1) 36 4 vf fs.length (eev fs) ∧ Row wr o' lI 3 1 vr il.length (intsL il) ∧ Blk wr o' (L + 9) q (.cells #[.int .i64 (n : Nat), vr, .slice none 0 0] 45 (0, 0)) ∧ VwE wr o' la vl es ∧ Step (RL L) w o wr o'
def ROut (w : World) (o : Nat → Nat) (L n : Nat) (es : List EdT) (e : Ending) (w' : World) : Prop :=
  ∃ q o' B bl, e = .returned (.tuple #[.pointer (some ⟨q, 0, none⟩), .int .i64 0]) ∧ Rf8 w' o' L q n B bl ∧ Ans n es B bl ∧ Step (RL L) w o w' o'
set_option maxRecDepth 100000 in
set_option maxHeartbeats 8000000 in
theorem refOf_ok (w : World) (o : Nat → Nat) (L n la : Nat) (vl : Value) (es : List EdT) (h : VwE w o la vl es) (hn1 : 1 ≤ n) (hn : n ≤ 64) (hes : es.length ≤ 192) (hla : la < L) (ok : OkE n es) :
    Calls Try.prog 5 #[.int .i64 (n : Nat), vl] w fun e w' => ROut w o L n es e w' := by
  have HV : Hid (VwE w o la vl es) := h
  have HOK : Hid (OkE n es) := ok
  obtain ⟨al, cl, rfl, hcl, hml, hpl⟩ := h
  unfold maxLen at hml
  clear hpl ok
  have i1 : ¬ ((n : Int) < 1) := by omega
  have i2 : ¬ ((64 : Int) < (n : Int)) := by omega
  have i3 : ¬ ((192 : Int) < (es.length : Int)) := by omega
  have nRL : ¬ RL L la := fun h => by have := h.1; omega
  go_enter Try.func5, Try.ntmps5
  go_wp2_with fail
  go_loopg [6] es.length (fun gh vi wr => ∃ k o', k ≤ es.length ∧ gh = es.length - k ∧ vi = .int .i64 (k : Nat) ∧ Step (fun _ => False) w o wr o')
  case atStart => exact ⟨0, o, by omega, by omega, by go_num, Step.refl _ _ _⟩
  case round =>
    obtain ⟨k, o', hk, rfl, rfl, sk⟩ := hrel
    by_cases hkn : k < es.length
    · have hkI : (k : Int) < (es.length : Int) := by omega
      have hmy := may_w wr o' la n k _ es (HV.out.step sk (fun h => h)) hn hkn hes
      go_wp2_with fail
      refine hmy.mono ?_
      rintro e w1 ⟨b, o1, rfl, hb, s1⟩
      obtain rfl : b = true := hb.2 fun h => HOK.out k h
      have HN : Hid (Step (fun _ => False) w o w1 o1) := sk.trans s1
      clear sk s1 hb hmy
      go_wp2
      go_roundg (es.length - (k + 1))
      case measure => omega
      case rel => exact ⟨k + 1, o1, by omega, rfl, by go_num, HN.out⟩
    · obtain rfl : k = es.length := by omega
      have START : RfS w o L la wr.heap.size n (.slice al es.length cl) es 0 (.slice none 0 0) (wr.alloc (.cells #[.int .i64 (n : Nat), .slice none 0 0, .slice none 0 0] 45)) := by
        have sa := newStep (fun _ => False) wr o' (L + 9) (.cells #[.int .i64 (n : Nat), .slice none 0 0, .slice none 0 0] 45)
        exact ⟨[], [], .slice none 0 0, L + 100, _, FmL.start es, BrL.start es, ⟨by omega, by omega⟩, Row.nil _ _ _ _ _, Row.nil _ _ _ _ _, ⟨heap_alloc_new wr _, newLab_new (Nat.le_refl _)⟩, HV.out.step (sk.trans sa) (fun h => h), (sk.trans sa).mono fun _ h => h.elim⟩
      clear sk
      obtain ⟨q, hq⟩ : ∃ q, q = wr.heap.size := ⟨_, rfl⟩
      rw [← hq] at START
      go_upto_region 10 with fail
      rw [← hq]
      generalize wr.alloc (.cells #[.int .i64 (n : Nat), .slice none 0 0, .slice none 0 0] 45) = wS at START ⊢
      clear hq HV
      go_wp2_with fail
      go_loopg [9, 10] es.length (fun gh vf vi wr => ∃ k, k ≤ es.length ∧ gh = es.length - k ∧ vi = .int .i64 (k : Nat) ∧ RfS w o L la q n (.slice al es.length cl) es k vf wr)
      case atStart => exact ⟨0, by omega, by omega, by go_num, START⟩
      case round =>
        clear START
        obtain ⟨k, hk, rfl, rfl, fs, il, vr, lI, o1, hF, hB, hlI, RF, RI, BQ, VV, SS⟩ := hrel
        by_cases hkn : k < es.length
        · have hkI : (k : Int) < (es.length : Int) := by omega
          have hxr := (HOK.out k hkn).1
          have HVk : Hid (VwE wr o1 la (.slice al es.length cl) es) := VV
          obtain ⟨ao', ca', hvv, _, _, hp⟩ := VV
          simp only [Value.slice.injEq, true_and] at hvv
          obtain ⟨rfl, rfl⟩ := hvv
          obtain ⟨gl, off, rfl, q1, q2, q3⟩ := hp (by omega)
          clear hp q1 q2 q3
          obtain ⟨ie, hie, hze0, hze1, hze2⟩ := info_parts infoEdge
          have hkc : k ≤ cl := by omega
          have hkcI : (k : Int) ≤ (cl : Int) := by omega
          have hk1c : k + 1 ≤ cl := by omega
          have hLt : (es.take k).length = k := by rw [List.length_take]; omega
          have hLd : (es.drop (k + 1)).length = es.length - (k + 1) := by rw [List.length_drop]
          have n1 := HVk.out.part (A := []) (M := es.take k) (Z := es.drop k) (by rw [List.nil_append, List.take_append_drop])
          simp only [List.length_nil, Nat.zero_mul, Nat.add_zero] at n1
          go_upto_region 15 with fail
          go_cut [11] (fun v1 wx => ∃ o', Row wx o' (L + 2) 36 4 v1 k (eev (es.take k)) ∧ Step (fun j => j = L + 2) wr o1 wx o')
          case first =>
            clear RF RI BQ SS
            go_wp2_with (first | (at_builtin; refine wpList_append_any rfl (.tmp 47) (.tmp 50) 22 rfl 36 ie (.agg #[.int .i64 0, .int .i64 0, .int .i64 0, .int .i64 0]) 4 32 Try.underlying22 hie hze0 hze1 hze2 rfl (by decide) o1 (L + 2) _ 0 [] rfl (Row.nil _ _ _ _ _) (some ⟨gl, off, none⟩) k cl (eev (es.take k)) rfl ?c1 (fun _ => ⟨_, rfl, n1⟩) (eev_one _) ?c3 ?c4 ?_) | go_in)
            case c1 => rw [eev_len, hLt]
            case c3 => unfold maxLen; omega
            case c4 => omega
            intro a7 c7 w7 o7 r7 s7
            have HR : ∃ o', Row w7 o' (L + 2) 36 4 (.slice a7 k c7) k (eev (es.take k)) ∧ Step (fun j => j = L + 2) wr o1 w7 o' := by
              refine ⟨o7, ?_, s7⟩
              try simp only [Nat.zero_add, List.nil_append] at r7
              exact r7
            clear r7 s7 n1
            try simp only [Nat.zero_add]
            go_wp2
            go_meet
            exact HR
          case rest =>
          obtain ⟨oA, RA, sA⟩ := hcut
          have VA : Hid (VwE wc oA la (.slice (some ⟨gl, off, none⟩) es.length cl) es) := HVk.out.step sA (by omega)
          have nA := VA.out.part (A := es.take (k + 1)) (M := es.drop (k + 1)) (Z := []) (by rw [List.append_nil, List.take_append_drop])
          rw [List.length_take, Nat.min_eq_left (by omega)] at nA
          obtain ⟨ar, cr, rfl⟩ := RA.form
          have hkcr := RA.cap.2.1
          clear n1
          generalize wc = wA at VA sA nA RA ⊢
          go_upto_region 16 with fail
          go_cut [11] (fun v1 wx => ∃ o', Row wx o' (L + 2) 36 4 v1 (es.take k ++ es.drop (k + 1)).length (eev (es.take k ++ es.drop (k + 1))) ∧ Step (fun j => j = L + 2) wA oA wx o')
          case first =>
            have hkkI : (k : Int) + 1 ≤ (es.length : Int) := by omega
            clear RF RI BQ SS HVk sA
            by_cases hcq : cl = k + 1
            · have HR : ∃ o', Row wA o' (L + 2) 36 4 (.slice ar k cr) (es.take k ++ es.drop (k + 1)).length (eev (es.take k ++ es.drop (k + 1))) ∧ Step (fun j => j = L + 2) wA oA wA o' := by
                refine ⟨oA, ?_, Step.refl _ _ _⟩
                have e : es.drop (k + 1) = [] := List.drop_eq_nil_of_le (by omega)
                rw [e, List.append_nil, hLt]
                exact RA
              have hcq' : k + 1 = cl := hcq.symm
              have hz1 : es.length - cl = 0 := by omega
              clear hcq hkc hk1c hcl nA RA hLt hLd VA
              go_wp2_with (first | (at_builtin; refine wpList_append_zero rfl (.tmp 52) (.tmp 56) 22 rfl 36 ie Try.underlying22 hie ar k cr _ _ rfl rfl hkcr ?_) | go_in)
              go_wp2
              go_meet
              exact HR
            · clear VA
              go_wp2_with (first | (at_builtin; refine wpList_append_any rfl (.tmp 52) (.tmp 56) 22 rfl 36 ie (.agg #[.int .i64 0, .int .i64 0, .int .i64 0, .int .i64 0]) 4 32 Try.underlying22 hie hze0 hze1 hze2 rfl (by decide) oA (L + 2) _ k (eev (es.take k)) rfl RA (some ⟨gl, off + (k + 1) * 4, none⟩) (es.length - (k + 1)) _ (eev (es.drop (k + 1))) rfl ?c1 (fun _ => ⟨_, rfl, nA⟩) (eev_one _) ?c3 ?c4 ?_) | go_in)
              case c1 => rw [eev_len, hLd]
              case c3 => unfold maxLen; omega
              case c4 => omega
              intro a8 c8 w8 o8 r8 s8
              have HR : ∃ o', Row w8 o' (L + 2) 36 4 (.slice a8 (k + (es.length - (k + 1))) c8) (es.take k ++ es.drop (k + 1)).length (eev (es.take k ++ es.drop (k + 1))) ∧ Step (fun j => j = L + 2) wA oA w8 o' := by
                refine ⟨o8, ?_, s8⟩
                rw [List.length_append, hLt, hLd, eev_append]
                exact r8
              clear r8 s8 nA RA
              go_wp2
              go_meet
              exact HR
          case rest =>
          obtain ⟨oC, RC, sC⟩ := hcut
          have sAC : Step (fun j => j = L + 2) wr o1 wc oC := sA.trans sC
          have hrin : ∀ x, x ∈ es.take k ++ es.drop (k + 1) → (0 ≤ x.u ∧ x.u < n) ∧ (0 ≤ x.v ∧ x.v < n) := fun x hx => by
            have : x ∈ es := by
              rcases List.mem_append.1 hx with t | t
              · exact List.mem_of_mem_take t
              · exact List.mem_of_mem_drop t
            obtain ⟨j, hj, rfl⟩ := List.getElem_of_mem this
            have := (HOK.out j hj).1
            exact ⟨this.1, this.2.1⟩
          have hlr : (es.take k ++ es.drop (k + 1)).length ≤ 200 := by rw [List.length_append, hLt, hLd]; omega
          have hpq := parts_in wc oC (L + 3) (L + 2) n _ (ends (es.take k ++ es.drop (k + 1))) (RC.vwe.vwp fun x hx => ⟨(hrin x hx).1.1, (hrin x hx).2.1⟩) (by omega) (by omega) (by omega) (by rw [ends_len]; omega) (ends_lt fun x hx => hrin x hx)
          obtain ⟨arr, crr, rfl⟩ := RC.form
          clear VA nA RA sC sA hLt hLd hrin
          generalize hLen : (es.take k ++ es.drop (k + 1)).length = ml at *
          go_wp2_with fail
          refine hpq.mono ?_
          rintro e wD ⟨gD, bD, oD, rfl, RD, CD, sD⟩
          have sAll : Step (fun j => j = L + 2 ∨ j = L + 3) wr o1 wD oD := (sAC.mono fun j hj => .inl hj).trans (sD.mono fun j hj => .inr hj)
          have RF2 := RF.step sAll (by omega)
          have RI2 := RI.step sAll (by omega)
          have BQ2 := BQ.step sAll (by omega)
          have VV2 := HVk.out.step sAll (by omega)
          have SS2 : Step (RL L) w o wD oD := SS.trans (sAll.mono fun j hj => ⟨by omega, by omega⟩)
          obtain ⟨u, hu⟩ : ∃ u, u = es[k].u.toNat := ⟨_, rfl⟩
          obtain ⟨v, hv⟩ : ∃ v, v = es[k].v.toNat := ⟨_, rfl⟩
          obtain ⟨⟨u1, u2⟩, ⟨v1, v2⟩, huv, ⟨d1, d2⟩, _⟩ := hxr
          have huI : es[k].u = (u : Int) := by omega
          have hvI : es[k].v = (v : Int) := by omega
          have hun : u < n := by omega
          have hvn : v < n := by omega
          have HK : Hid (bD u = bD v ↔ Firm (ends es) k) := by
            show _ ↔ _
            rw [CD.1 u v hun hvn, ends_rest, cj_rest, firm_at hkn, ← hu, ← hv]
          obtain ⟨gx, capx, hvx, hgx, hcx, hmx, hltx, hcellx, hfrx⟩ := RD.pos (by omega)
          simp only [Value.slice.injEq, Option.some.injEq, Addr.mk.injEq, and_true, true_and] at hvx
          obtain ⟨rfl, hccx⟩ := hvx
          have du := (hcellx u (by omega)).trans (natsF_get bD hun)
          have dv := (hcellx v (by omega)).trans (natsF_get bD hvn)
          have HV2 : Hid (VwE wD oD la (.slice (some ⟨gl, off, none⟩) es.length cl) es) := VV2
          obtain ⟨ao', ca', hvv, _, _, hp⟩ := VV2
          simp only [Value.slice.injEq, true_and] at hvv
          obtain ⟨rfl, rfl⟩ := hvv
          obtain ⟨g', off', hgo, hq1, hq2, q3⟩ := hp (by omega)
          simp only [Option.some.injEq, Addr.mk.injEq, and_true] at hgo
          obtain ⟨rfl, rfl⟩ := hgo
          obtain ⟨x0, x1, x2, x3⟩ := q3 k hkn
          rw [huI] at x1
          rw [hvI] at x2
          have huI2 : (u : Int) < (n : Int) := by omega
          have hvI2 : (v : Int) < (n : Int) := by omega
          have HE : Hid (∀ z, z = es[k].wt → es[k] = ⟨es[k].id, (u : Int), (v : Int), z⟩) := fun z hz => by rw [hz, ← huI, ← hvI]
          have hid : es[k].id = (idn es k : Int) := by
            have : idn es k = es[k].id.toNat := by simp [idn, hkn]
            omega
          rw [hid] at x0
          obtain ⟨wt, hwt⟩ : ∃ z, z = es[k].wt := ⟨_, rfl⟩
          have HE2 : Hid (es[k] = ⟨(idn es k : Int), (u : Int), (v : Int), wt⟩) := by
            have := HE.out wt hwt
            rw [hid] at this
            exact this
          rw [← hwt] at x3
          have hI40 : idn es k ≤ 1099511627776 := by omega
          clear hp q3 hcellx hfrx RD CD hccx hpq RC sAC sD sAll hlr hLen RF RI BQ HVk SS hu hv u1 u2 v1 v2 huv d1 d2 huI hvI HE hid hwt hgx hcx hmx
          obtain ⟨eu, heu⟩ : ∃ x, x = bD u := ⟨_, rfl⟩
          obtain ⟨ev, hev⟩ : ∃ x, x = bD v := ⟨_, rfl⟩
          rw [← heu] at du HK
          rw [← hev] at dv HK
          clear heu hev
          by_cases hfm : Firm (ends es) k
          · have heq : ((eu : Int) == (ev : Int)) = true := by have := HK.out.2 hfm; rw [this]; simp
            have HFn : Hid (FmL es (k + 1) (fs ++ [es[k]]) ∧ BrL es (k + 1) il) := ⟨hF.snoc hkn hfm, hB.same hfm⟩
            have hfl := hF.1
            clear HK hfm hF hB
            go_wp2_with fail
            go_quiet (fail)
            have RF3 := RF2.step (drewStep (fun _ => False) wD oD nq) (fun h => h)
            have HN0 : Hid (Row (wD.drewN nq) oD lI 3 1 vr il.length (intsL il) ∧ Blk (wD.drewN nq) oD (L + 9) q (.cells #[.int .i64 (n : Nat), vr, .slice none 0 0] 45 (0, 0)) ∧ VwE (wD.drewN nq) oD la (.slice (some ⟨gl, off, none⟩) es.length cl) es ∧ Step (RL L) w o (wD.drewN nq) oD) := ⟨RI2.step (drewStep (fun _ => False) wD oD nq) (fun h => h), BQ2.step (drewStep (fun _ => False) wD oD nq) (fun h => h), HV2.out.step (drewStep (fun _ => False) wD oD nq) (fun h => h), SS2.drewN nq⟩
            obtain ⟨af, cf, rfl⟩ := RF3.form
            clear RF2 RI2 BQ2 HV2 SS2 du dv heq
            rw [HE2.out] at HFn
            obtain ⟨wE, hwE⟩ : ∃ x, x = wD.drewN nq := ⟨_, rfl⟩
            have z0 : wE.cell? ⟨gl, off + k * 4, none⟩ = some (.int .i64 (idn es k : Nat)) := by rw [hwE]; exact x0
            have z1 : wE.cell? ⟨gl, off + k * 4 + 1, none⟩ = some (.int .i64 (u : Nat)) := by rw [hwE]; exact x1
            have z2 : wE.cell? ⟨gl, off + k * 4 + 2, none⟩ = some (.int .i64 (v : Nat)) := by rw [hwE]; exact x2
            have z3 : wE.cell? ⟨gl, off + k * 4 + 3, none⟩ = some (.int .i64 wt) := by rw [hwE]; exact x3
            rw [← hwE] at RF3 HN0 ⊢
            clear x0 x1 x2 x3 hwE hq2 hltx
            go_wp2_with (first | (at_builtin; refine wpList_append_lab rfl (.tmp 78) (.tmp 83) 22 rfl 36 ie (.agg #[.int .i64 0, .int .i64 0, .int .i64 0, .int .i64 0]) 4 32 Try.underlying22 hie hze0 hze1 hze2 rfl (by decide) oD (L + 1) _ fs.length (eev fs) rfl (RF3.step (allocStep (fun _ => False) _ oD _) (by simp)) ⟨wE.heap.size, 0, none⟩ 1 1 [.int .i64 (idn es k : Nat), .int .i64 (u : Nat), .int .i64 (v : Nat), .int .i64 wt] rfl rfl ?c1 ?c2 (by decide) ?c3 ?c4 ?_) | go_in)
            case c1 =>
              intro j u' hj
              match j, hj with
              | 0, hj => simp at hj; subst hj; simp [Addr.add]
              | 1, hj => simp at hj; subst hj; simp [Addr.add]
              | 2, hj => simp at hj; subst hj; simp [Addr.add]
              | 3, hj => simp at hj; subst hj; simp [Addr.add]
            case c2 => intro z hz; simp at hz; rcases hz with rfl | rfl | rfl | rfl <;> rfl
            case c3 => unfold maxLen; omega
            case c4 => omega
            intro g7 c7 w7 o7 r7 s7
            have sE := (allocStep (fun k => k = L + 1) wE oD _).trans s7
            have HN : Hid (RfS w o L la q n (.slice (some ⟨gl, off, none⟩) es.length cl) es (k + 1) (.slice (some ⟨g7, 0, none⟩) (fs.length + 1) c7) w7) := by
              obtain ⟨t1, t2, t3, t4⟩ := HN0.out
              refine ⟨_, il, vr, lI, o7, HFn.out.1, HFn.out.2, ⟨by omega, by omega⟩, ?_, t1.step sE (by omega), t2.step sE (by omega), t3.step sE (by omega), t4.trans (sE.mono fun j hj => ⟨by omega, by omega⟩)⟩
              rw [List.length_append, eev_append]; exact r7
            clear r7 s7 sE RF3 HN0 HFn z0 z1 z2 z3
            go_wp2
            go_roundg (es.length - (k + 1))
            case measure => omega
            case rel => exact ⟨k + 1, by omega, rfl, by go_num, HN.out⟩
          · have heq : ((eu : Int) == (ev : Int)) = false := by
              simp only [beq_eq_false_iff_ne, ne_eq]
              intro h
              exact hfm (HK.out.1 (by omega))
            have HFn : Hid (FmL es (k + 1) fs) := hF.same hfm
            have HBn : Hid (∀ a, a ≤ il.length → (∀ j (hj : j < il.length), j < a → il[j] < idn es k) → (∀ hj : a < il.length, idn es k ≤ il[a]) → BrL es (k + 1) (il.take a ++ idn es k :: il.drop a)) := fun a ha h1 h2 => hB.put HOK.out hkn hfm ha h1 h2
            have hil := hB.1
            clear HK hfm hF hB
            go_wp2_with fail
            go_quiet (fail)
            have RF3 := RF2.step (drewStep (fun _ => False) wD oD nq) (fun h => h)
            have RI3 := RI2.step (drewStep (fun _ => False) wD oD nq) (fun h => h)
            have BQ3 := BQ2.step (drewStep (fun _ => False) wD oD nq) (fun h => h)
            have VV3 := HV2.out.step (drewStep (fun _ => False) wD oD nq) (fun h => h)
            have SS3 : Step (RL L) w o (wD.drewN nq) oD := SS2.drewN nq
            obtain ⟨wE, hwE⟩ : ∃ x, x = wD.drewN nq := ⟨_, rfl⟩
            have z0 : wE.cell? ⟨gl, off + k * 4, none⟩ = some (.int .i64 (idn es k : Nat)) := by rw [hwE]; exact x0
            rw [← hwE] at RF3 RI3 BQ3 VV3 SS3 ⊢
            clear RF2 RI2 BQ2 HV2 SS2 du dv heq x0 x1 x2 x3 hwE hq2 hltx HE2 hq1
            obtain ⟨id, hid⟩ : ∃ id, id = idn es k := ⟨_, rfl⟩
            rw [← hid] at z0 HBn hI40
            clear hid
            obtain ⟨c0, c1, c2, hf⟩ := BQ3.cells3
            obtain ⟨ai, ci, rfl⟩ := RI3.form
            have hci := RI3.cap.2
            have HI : Hid (∀ a (ha : a < il.length), ∃ gi, ai = some ⟨gi, 0, none⟩ ∧ wE.cell? ⟨gi, a, none⟩ = some (.int .i64 (il[a] : Nat))) := fun a ha => by
              obtain ⟨gi, cc, hv1, _, _, _, _, hcl1, _⟩ := RI3.pos (by omega)
              simp only [Value.slice.injEq, true_and] at hv1
              refine ⟨gi, hv1.1, ?_⟩
              rw [hcl1 a (by omega), intsL_get il a ha]
            have hilm : (il.length : Int) ≤ 192 := by omega
            obtain ⟨af, cf, rfl⟩ := RF3.form
            go_upto_block 4 with fail
            go_cut [13] (fun va wx => ∃ a m, a ≤ il.length ∧ va = .int .i64 (a : Nat) ∧ BrL es (k + 1) (il.take a ++ id :: il.drop a) ∧ wx = wE.drewN m)
            case first =>
              have HT : Hid (∀ m, wE.drewN m = wE.drewN m) := fun _ => rfl
              clear RF3 RI3 BQ3 VV3 SS3
              go_wp2_with fail
              go_loopg [13] il.length (fun gh va wx => ∃ a m, a ≤ il.length ∧ gh = il.length - a ∧ va = .int .i64 (a : Nat) ∧ (∀ j (hj : j < il.length), j < a → il[j] < id) ∧ wx = wE.drewN m)
              case atStart => exact ⟨0, 0, by omega, by omega, by go_num, fun j hj h => by omega, rfl⟩
              case round =>
                obtain ⟨a, m, ha, rfl, rfl, hlo, rfl⟩ := hrel
                by_cases hal : a < il.length
                · have haI : (a : Int) < (il.length : Int) := by omega
                  have haD : decide ((a : Int) < (il.length : Int)) = true := by simpa using haI
                  obtain ⟨gi, rfl, xa⟩ := HI.out a hal
                  by_cases hlt2 : il[a] < id
                  · have hltI : ((il[a] : Nat) : Int) < (id : Int) := by omega
                    have hltD : decide (((il[a] : Nat) : Int) < (id : Int)) = true := by simpa using hltI
                    have HN : Hid (∀ j (hj : j < il.length), j < a + 1 → il[j] < id) := fun j hj h => by
                      by_cases e : j = a
                      · subst e; exact hlt2
                      · exact hlo j hj (by omega)
                    clear hlo hlt2 HBn
                    generalize il[a] = ia at xa hltI hltD
                    go_wp2_with fail
                    go_quiet (fail)
                    go_wp2
                    go_roundg (il.length - (a + 1))
                    case measure => omega
                    case rel => exact ⟨a + 1, m + nq, by omega, rfl, by go_num, HN.out, rfl⟩
                  · have hltI : ¬ (((il[a] : Nat) : Int) < (id : Int)) := by omega
                    have hltD : decide (((il[a] : Nat) : Int) < (id : Int)) = false := by simpa using hltI
                    have HN : Hid (BrL es (k + 1) (il.take a ++ id :: il.drop a)) := HBn.out a (by omega) hlo (fun _ => by omega)
                    clear hlo hlt2 HBn
                    generalize il[a] = ia at xa hltI hltD
                    go_wp2_with fail
                    go_quiet (fail)
                    go_wp2
                    go_meet
                    exact ⟨a, m + nq, by omega, rfl, HN.out, drewN_two _ _ _⟩
                · have haI : ¬ ((a : Int) < (il.length : Int)) := by omega
                  have haD : decide ((a : Int) < (il.length : Int)) = false := by simpa using haI
                  have HN : Hid (BrL es (k + 1) (il.take a ++ id :: il.drop a)) := HBn.out a (by omega) hlo (fun h => absurd h hal)
                  clear hlo HBn
                  go_wp2_with fail
                  go_quiet (fail)
                  go_wp2
                  go_meet
                  exact ⟨a, m + nq, by omega, rfl, HN.out, drewN_two _ _ _⟩
            case rest =>
            obtain ⟨a, m, ha, rfl, hBn2, rfl⟩ := hcut
            have RF4 := RF3.step (drewStep (fun _ => False) wE oD m) (fun h => h)
            have RI4 := RI3.step (drewStep (fun _ => False) wE oD m) (fun h => h)
            have BQ4 := BQ3.step (drewStep (fun _ => False) wE oD m) (fun h => h)
            have VV4 := VV3.step (drewStep (fun _ => False) wE oD m) (fun h => h)
            have SS4 : Step (RL L) w o (wE.drewN m) oD := SS3.drewN m
            obtain ⟨wF, hwF⟩ : ∃ x, x = wE.drewN m := ⟨_, rfl⟩
            have z4 : wF.cell? ⟨gl, off + k * 4, none⟩ = some (.int .i64 (id : Nat)) := by rw [hwF]; exact z0
            rw [← hwF] at RF4 RI4 BQ4 VV4 SS4 ⊢
            clear RF3 RI3 BQ3 VV3 SS3 hwF z0 c0 c1 c2 hf HI HBn
            obtain ⟨c0, c1, c2, hf⟩ := BQ4.cells3
            obtain ⟨ii, hii, hzi0, hzi1, hzi2⟩ := info_parts infoInt
            have hac : a ≤ ci := by omega
            have hacI : (a : Int) ≤ (ci : Int) := by omega
            have haI : (a : Int) ≤ (il.length : Int) := by omega
            have hcm := hci.2
            unfold maxLen at hcm
            have hLt : (il.take a).length = a := by rw [List.length_take]; omega
            have hLd : (il.drop a).length = il.length - a := by rw [List.length_drop]
            have hform : (ai = none ∧ ci = 0 ∧ il.length = 0) ∨ ∃ gi, ai = some ⟨gi, 0, none⟩ := by
              rcases RI4.1.2 with ⟨hh, hk0⟩ | ⟨gx, cx, _, hh, _⟩
              · simp only [Value.slice.injEq] at hh
                exact .inl ⟨hh.1, hh.2.2, hk0⟩
              · simp only [Value.slice.injEq] at hh
                exact .inr ⟨gx, hh.1⟩
            obtain ⟨cq, hcq0⟩ : ∃ x, x = hci := ⟨_, rfl⟩
            clear hcq0 cq
            have hLT : L + 101 + k ≠ lI := by omega
            go_upto_region 24 with fail
            go_cut [14] (fun v1 wx => ∃ o', Row wx o' (L + 101 + k) 3 1 v1 a (intsL (il.take a)) ∧ Step (fun j => j = L + 101 + k) wF oD wx o')
            case first =>
              rcases hform with ⟨rfl, rfl, hi0⟩ | ⟨gi, rfl⟩
              · obtain rfl : a = 0 := by omega
                have HR : ∃ o', Row wF o' (L + 101 + k) 3 1 (.slice none 0 0) 0 (intsL (il.take 0)) ∧ Step (fun j => j = L + 101 + k) wF oD wF o' := ⟨oD, Row.nil _ _ _ _ _, Step.refl _ _ _⟩
                rw [hi0] at c1
                clear RF4 RI4 BQ4 VV4 SS4 hBn2
                go_wp2_with (first | (at_builtin; refine wpList_append_zero rfl (.tmp 109) (.tmp 115) 38 rfl 3 ii Try.underlying38 hii none 0 0 _ _ rfl rfl (Nat.le_refl _) ?_) | go_in)
                go_wp2
                go_meet
                exact HR
              · have n1 := ints_cells (A := []) (M := il.take a) (Z := il.drop a) RI4 (by rw [List.nil_append, List.take_append_drop])
                simp only [List.length_nil] at n1
                clear RF4 RI4 BQ4 VV4 SS4 hBn2
                go_wp2_with (first | (at_builtin; refine wpList_append_any rfl (.tmp 109) (.tmp 115) 38 rfl 3 ii (.int .i64 0) 1 8 Try.underlying38 hii hzi0 hzi1 hzi2 rfl (by decide) oD (L + 101 + k) _ 0 [] rfl (Row.nil _ _ _ _ _) (some ⟨gi, 0, none⟩) a ci (intsL (il.take a)) rfl ?c1 (fun _ => ⟨_, rfl, n1⟩) (intsL_one _) ?c3 ?c4 ?_) | go_in)
                case c1 => rw [intsL_len, hLt]; omega
                case c3 => unfold maxLen; omega
                case c4 => omega
                intro a7 c7 w7 o7 r7 s7
                have HR : ∃ o', Row w7 o' (L + 101 + k) 3 1 (.slice a7 a c7) a (intsL (il.take a)) ∧ Step (fun j => j = L + 101 + k) wF oD w7 o' := by
                  refine ⟨o7, ?_, s7⟩
                  try simp only [Nat.zero_add, List.nil_append] at r7
                  exact r7
                clear r7 s7 n1
                try simp only [Nat.zero_add]
                go_wp2
                go_meet
                exact HR
            case rest =>
            obtain ⟨o5, RM, s5⟩ := hcut
            have RF5 := RF4.step s5 (by omega)
            have RI5 := RI4.step s5 (by omega)
            have BQ5 := BQ4.step s5 (by omega)
            have VV5 := VV4.step s5 (by omega)
            have SS5 : Step (RL L) w o wc o5 := SS4.trans (s5.mono fun j hj => ⟨by omega, by omega⟩)
            have z5 : wc.cell? ⟨gl, off + k * 4, none⟩ = some (.int .i64 (id : Nat)) := by
              obtain ⟨ao', ca', hvv, _, _, hp⟩ := VV4
              simp only [Value.slice.injEq, true_and] at hvv
              obtain ⟨rfl, rfl⟩ := hvv
              obtain ⟨g', off', hgo, hq1, hq2, q3⟩ := hp (by omega)
              simp only [Option.some.injEq, Addr.mk.injEq, and_true] at hgo
              obtain ⟨rfl, rfl⟩ := hgo
              exact (s5.cell hq2 (by rw [hq1]; omega) _).trans z4
            obtain ⟨am, cm, rfl⟩ := RM.form
            clear RF4 RI4 BQ4 VV4 SS4 s5 z4 c0 c1 c2 hf
            generalize wc = wG at RF5 RI5 BQ5 VV5 SS5 z5 RM ⊢
            go_upto_region 25 with fail
            go_cut [14] (fun v1 wx => ∃ o', Row wx o' (L + 101 + k) 3 1 v1 (a + 1) (intsL (il.take a) ++ [.int .i64 (id : Nat)]) ∧ Step (fun j => j = L + 101 + k) wG o5 wx o')
            case first =>
              clear RF5 RI5 BQ5 VV5 SS5 hBn2
              go_wp2_with (first | (at_builtin; refine wpList_append_lab rfl (.tmp 117) (.tmp 123) 38 rfl 3 ii (.int .i64 0) 1 8 Try.underlying38 hii hzi0 hzi1 hzi2 rfl (by decide) o5 (L + 101 + k) _ a (intsL (il.take a)) rfl (RM.step (allocStep (fun _ => False) _ o5 _) (by simp)) ⟨wG.heap.size, 0, none⟩ 1 1 [.int .i64 (id : Nat)] rfl rfl (new_one _ _ _) ?c2 (by decide) ?c3 ?c4 ?_) | go_in)
              case c2 => intro z hz; simp at hz; subst hz; rfl
              case c3 => unfold maxLen; omega
              case c4 => omega
              intro g7 c7 w7 o7 r7 s7
              have HR : ∃ o', Row w7 o' (L + 101 + k) 3 1 (.slice (some ⟨g7, 0, none⟩) (a + 1) c7) (a + 1) (intsL (il.take a) ++ [.int .i64 (id : Nat)]) ∧ Step (fun j => j = L + 101 + k) wG o5 w7 o' := ⟨o7, r7, (allocStep _ wG o5 _).trans s7⟩
              clear r7 s7 RM z5
              go_wp2
              go_meet
              exact HR
            case rest =>
            obtain ⟨o6, RN, s6⟩ := hcut
            have RF6 := RF5.step s6 (by omega)
            have RI6 := RI5.step s6 (by omega)
            have BQ6 := BQ5.step s6 (by omega)
            have VV6 := VV5.step s6 (by omega)
            have SS6 : Step (RL L) w o wc o6 := SS5.trans (s6.mono fun j hj => ⟨by omega, by omega⟩)
            obtain ⟨an, cn, rfl⟩ := RN.form
            have hcn := RN.cap.2.1
            clear RF5 RI5 BQ5 VV5 SS5 s6 z5 RM
            generalize wc = wH at RF6 RI6 BQ6 VV6 SS6 RN ⊢
            obtain ⟨c0, c1, c2, hf⟩ := BQ6.cells3
            have NEXT : Hid (∀ (w8 : World) (o8 : Nat → Nat) (v8 : Value), Row w8 o8 (L + 101 + k) 3 1 v8 (a + 1 + (il.length - a)) ((intsL (il.take a) ++ [.int .i64 (id : Nat)]) ++ intsL (il.drop a)) → Step (fun j => j = L + 101 + k) wH o6 w8 o8 → RfS w o L la q n (.slice (some ⟨gl, off, none⟩) es.length cl) es (k + 1) (.slice af fs.length cf) (w8.setCell ⟨q, 1, none⟩ v8)) := fun w8 o8 v8 r8 s8 => by
              have B8 := BQ6.step s8 (by omega)
              have B9 := B8.set 1 v8
              have s9 := B8.stp2 1 v8
              refine ⟨fs, _, v8, L + 101 + k, o8, HFn.out, hBn2, ⟨by omega, by omega⟩, (RF6.step s8 (by omega)).step s9 (by omega), ?_, B9, (VV6.step s8 (by omega)).step s9 (by omega), (SS6.trans (s8.mono fun j hj => ⟨by omega, by omega⟩)).trans (s9.mono fun j hj => ⟨by omega, by omega⟩)⟩
              have e1 : (il.take a ++ id :: il.drop a).length = a + 1 + (il.length - a) := by rw [List.length_append, List.length_cons, hLt, hLd]; omega
              have e2 : intsL (il.take a ++ id :: il.drop a) = (intsL (il.take a) ++ [.int .i64 (id : Nat)]) ++ intsL (il.drop a) := by
                rw [intsL_append, List.append_assoc]; rfl
              rw [e1, e2]
              exact r8.step s9 (by omega)
            rcases hform with ⟨rfl, rfl, hi0⟩ | ⟨gi, rfl⟩
            · obtain rfl : a = 0 := by omega
              have HN : Hid (RfS w o L la q n (.slice (some ⟨gl, off, none⟩) es.length cl) es (k + 1) (.slice af fs.length cf) (wH.setCell ⟨q, 1, none⟩ (.slice an (0 + 1) cn))) := NEXT.out wH o6 _ (by
                have e : intsL (il.drop 0) = [] := by rw [List.drop_zero, List.eq_nil_of_length_eq_zero hi0]; rfl
                rw [e, List.append_nil, hi0]
                exact RN) (Step.refl _ _ _)
              rw [hi0] at c1
              clear NEXT RF6 RI6 BQ6 VV6 SS6 RN hBn2 HFn hLt hLd
              go_wp2_with (first | (at_builtin; refine wpList_append_zero rfl (.tmp 126) (.tmp 132) 38 rfl 3 ii Try.underlying38 hii an (0 + 1) cn _ _ rfl rfl hcn ?_) | go_in)
              go_roundg (es.length - (k + 1))
              case measure => omega
              case rel => exact ⟨k + 1, by omega, rfl, by go_num, by simpa using HN.out⟩
            · have n2 := ints_cells (A := il.take a) (M := il.drop a) (Z := []) RI6 (by rw [List.append_nil, List.take_append_drop])
              rw [hLt] at n2
              by_cases hcq : ci = a
              · have HN : Hid (RfS w o L la q n (.slice (some ⟨gl, off, none⟩) es.length cl) es (k + 1) (.slice af fs.length cf) (wH.setCell ⟨q, 1, none⟩ (.slice an (a + 1) cn))) := NEXT.out wH o6 _ (by
                  have hz : il.length - a = 0 := by omega
                  have e : intsL (il.drop a) = [] := by rw [List.drop_eq_nil_of_le (by omega)]; rfl
                  rw [e, List.append_nil, hz]
                  exact RN) (Step.refl _ _ _)
                have hz : il.length - a = 0 := by omega
                clear NEXT RF6 RI6 BQ6 VV6 SS6 RN hBn2 HFn hLt hLd n2
                go_wp2_with (first | (at_builtin; refine wpList_append_zero rfl (.tmp 126) (.tmp 132) 38 rfl 3 ii Try.underlying38 hii an (a + 1) cn _ _ rfl rfl hcn ?_) | go_in)
                go_roundg (es.length - (k + 1))
                case measure => omega
                case rel => exact ⟨k + 1, by omega, rfl, by go_num, HN.out⟩
              · go_wp2_with (first | (at_builtin; refine wpList_append_any rfl (.tmp 126) (.tmp 132) 38 rfl 3 ii (.int .i64 0) 1 8 Try.underlying38 hii hzi0 hzi1 hzi2 rfl (by decide) o6 (L + 101 + k) _ (a + 1) _ rfl RN (some ⟨gi, a, none⟩) (il.length - a) _ (intsL (il.drop a)) rfl ?c1 (fun _ => ⟨_, rfl, n2⟩) (intsL_one _) ?c3 ?c4 ?_) | go_in)
                case c1 => rw [intsL_len, hLd]; omega
                case c3 => unfold maxLen; omega
                case c4 => omega
                intro a8 c8 w8 o8 r8 s8
                have HN : Hid (RfS w o L la q n (.slice (some ⟨gl, off, none⟩) es.length cl) es (k + 1) (.slice af fs.length cf) (w8.setCell ⟨q, 1, none⟩ (.slice a8 (a + 1 + (il.length - a)) c8))) := NEXT.out w8 o8 _ (by rw [List.append_assoc]; exact r8) s8
                obtain ⟨d0, d1, d2, df⟩ := (BQ6.step s8 (by omega)).cells3
                clear NEXT RF6 RI6 BQ6 VV6 SS6 RN hBn2 HFn n2 r8 s8 c0 c1 c2 hf
                go_wp2
                go_roundg (es.length - (k + 1))
                case measure => omega
                case rel => exact ⟨k + 1, by omega, rfl, by go_num, HN.out⟩

        · obtain rfl : k = es.length := by omega
          have hmem : ∀ x, x ∈ fs → (0 ≤ x.u ∧ x.u < n) ∧ (0 ≤ x.v ∧ x.v < n) := fun x hx => by
            obtain ⟨j, hj, rfl, _⟩ := hF.2.1 x hx
            have := (HOK.out j hj).1
            exact ⟨this.1, this.2.1⟩
          have hpt := parts_in wr o1 (L + 5) (L + 1) n _ (ends fs) (RF.vwe.vwp fun x hx => ⟨(hmem x hx).1.1, (hmem x hx).2.1⟩) (by omega) hn1 hn (by rw [ends_len]; have := hF.1; omega) (ends_lt hmem)
          obtain ⟨af, cf, rfl⟩ := RF.form
          go_wp2_with fail
          refine hpt.mono ?_
          rintro e w2 ⟨g2, b2, o2, rfl, R2, C2, s2⟩
          have B2 := BQ.step s2 (by omega)
          obtain ⟨c0, c1, c2, hf⟩ := B2.cells3
          have B3 := B2.set 2 (.slice (some ⟨g2, 0, none⟩) n n)
          have s3 := B2.stp2 2 (.slice (some ⟨g2, 0, none⟩) n n)
          have HF : Hid (ROut w o L n es (.returned (.tuple #[.pointer (some ⟨q, 0, none⟩), .int .i64 0])) (w2.setCell ⟨q, 2, none⟩ (.slice (some ⟨g2, 0, none⟩) n n))) := by
            refine ⟨q, o2, il, b2, rfl, ⟨vr, lI, g2, n, ⟨by omega, by omega⟩, B3, (RI.step s2 (by omega)).step s3 (by omega), R2.step s3 (by omega)⟩, ref_ans hF hB C2.1 C2.2, ?_⟩
            exact (SS.trans (s2.mono fun j hj => ⟨by omega, by omega⟩)).trans (s3.mono fun j hj => ⟨by omega, by omega⟩)
          clear B2 B3 s3 R2 C2 s2 hpt RF RI BQ VV SS hF hB hmem
          go_wp2
          go_ret2
          exact HF.out
end Go.Proofs.Ytanahbkkgppfnaa
