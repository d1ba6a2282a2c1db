/- A step from where the walk stands. -/
import Derived.Test.YtanahbkkgppfnaaEnt
namespace Go.Proofs.Ytanahbkkgppfnaa
open Go.ChangeShapes Go.WideShapes Go.ChangeAt Go.RowKit
set_option linter.unusedVariables false

set_option maxRecDepth 100000 in
theorem adv_core (w : World) (o : Nat → Nat) (L p n la : Nat) (es : List EdT) (s : Dst) (ps : List Nat) (v e y : Nat) (t : List (Nat × Nat)) (h : Wm w o L p n la es s) (hn : n ≤ 64) (hv : v < n) (hy : y < n) (hp : s.path = ps ++ [v]) (hs : s.st v = (e, y) :: t) (ht : s.turns ≤ 64) (hpl : s.path.length ≤ 64) (ho : s.op.length ≤ 64) (hla : la < L) (he : e < 1000) (hlw : s.lw v ≤ 64) (hty : s.tn y ≤ 64) (htt : t.length < 1000) (sf : Dst) (HA : Hid (s.ba v = (e : Nat) → sf = { s with st := put8 s.st v t })) (HB : Hid (s.ba v ≠ (e : Nat) → 0 < s.tn y → sf = { s with st := put8 s.st v t, lw := put8 s.lw v (min (s.lw v) (s.tn y)) })) (HC : Hid (s.ba v ≠ (e : Nat) → s.tn y = 0 → sf = enterS { s with st := put8 s.st v t } y (e : Nat))) :
    Calls Try.prog 34 #[.pointer (some ⟨p, 0, none⟩)] w fun e' w' => e' = .returned (.tuple #[]) ∧ ∃ o', Wm w' o' L p n la es sf ∧ Step (WL L) w o w' o' := by
  have hpl' : ps.length ≤ 64 := by rw [hp] at hpl; simp at hpl; omega
  have hh := fun wx hx => here_w wx o L p n la es s ps v hx hp hpl'
  have hw := h
  obtain ⟨gp, cp, gb, cb, vp, vo, ve, vr, vs, hk⟩ := h
  have h1 := hk.1
  obtain ⟨c0, c1, c2, c3, c4, c5, c6, hf⟩ := h1.cells7
  have hvI : (v : Int) < (n : Int) := by omega
  go_enter Try.func34, Try.ntmps34
  go_wp2_with fail
  go_quiet ((go_at_call 39; exact Calls.quiet_of (hh _ hw)))
  have h : Wk (w.drewN nq) o L p n la es s gp cp gb cb vp vo ve vr vs := hk
  have sw : Step (fun _ => False) w o (w.drewN nq) o := drewStep _ w o nq
  clear hk hw hh h1 c0 c1 c2 c3 c4 c5 c6 hf
  generalize w.drewN nq = w0 at h sw ⊢
  have s0 := newStep (fun _ => False) w0 o (L + 6) (.cells #[.int .i64 (e : Nat), .int .i64 (y : Nat)] 68)
  have A0 : Blk (w0.alloc (.cells #[.int .i64 (e : Nat), .int .i64 (y : Nat)] 68)) (newLab w0 o (L + 6)) (L + 6) w0.heap.size (.cells #[.int .i64 (e : Nat), .int .i64 (y : Nat)] 68 (0, 0)) := ⟨heap_alloc_new w0 _, newLab_new (Nat.le_refl _)⟩
  have z00 : Blk (w0.alloc (.cells #[.int .i64 0, .int .i64 0] 68)) (newLab w0 o (L + 6)) (L + 6) w0.heap.size (.cells #[.int .i64 0, .int .i64 0] 68 (0, 0)) := ⟨heap_alloc_new w0 _, newLab_new (Nat.le_refl _)⟩
  obtain ⟨a0, a1, af⟩ := z00.cells2
  obtain ⟨a0', a1', af'⟩ := (z00.set 0 (.int .i64 (e : Nat))).cells2
  obtain ⟨h1, h2, h3, h4, h5, h6, h7, h8⟩ := h
  obtain ⟨c0, c1, c2, c3, c4, c5, c6, hf⟩ := h1.cells7
  obtain ⟨g, cap, hv', hg, hc, hm, hlt, hcell, hfr⟩ := h2.pos (by omega)
  simp only [Value.slice.injEq, Option.some.injEq, Addr.mk.injEq, and_true, true_and] at hv'
  obtain ⟨rfl, rfl⟩ := hv'
  have k0 := (hcell (v * 4) (by omega)).trans (pl4_get vs (fun x => .int .i64 (s.ba x)) (fun x => .int .i64 (s.tn x : Nat)) (fun x => .int .i64 (s.lw x : Nat)) n v hv).1
  have hSV := h3 v hv
  rw [hs] at hSV
  obtain ⟨ao, ca, hvs, q1, q2, q3⟩ := hSV
  simp only [List.length_cons] at hvs q1 q2 q3
  obtain ⟨gs, off, rfl, q4, q5, q6⟩ := q3 (by omega)
  obtain ⟨z0, z1⟩ := q6 0 (by omega)
  simp only [Nat.zero_mul, Nat.add_zero, List.getElem_cons_zero] at z0 z1
  rw [hvs] at k0
  unfold maxLen at q2
  clear hcell q3 q6 z00 hvs q4 q5
  go_upto_region 2 with fail
  have sw1 : Step (fun _ => False) w o _ (newLab w0 o (L + 6)) := sw.trans s0
  clear a0 a1 af a0' a1' af' c0 c1 c2 c3 c4 c5 c6 hf k0 hfr z0 z1 hlt q1 q2 hg
  replace h1 := h1.step s0 id
  replace h2 := h2.step s0 id
  replace h3 := fun x hx => (h3 x hx).step s0 id
  replace h4 := h4.step s0 id
  replace h5 := h5.step s0 id
  replace h6 := h6.step s0 id
  replace h7 := h7.step s0 id
  replace h8 := h8.step s0 id
  obtain ⟨b0, hb0⟩ : ∃ b0, b0 = w0.heap.size := ⟨_, rfl⟩
  rw [← hb0] at A0 ⊢
  clear s0
  generalize w0.alloc (.cells #[.int .i64 (e : Nat), .int .i64 (y : Nat)] 68) = w1 at sw1 A0 h1 h2 h3 h4 h5 h6 h7 h8 ⊢
  generalize newLab w0 o (L + 6) = o1 at sw1 A0 h1 h2 h3 h4 h5 h6 h7 h8
  clear hb0 sw w0
  obtain ⟨c0, c1, c2, c3, c4, c5, c6, hf⟩ := h1.cells7
  obtain ⟨g, cap, hv', hg, hc, hm, hlt, hcell, hfr⟩ := h2.pos (by omega)
  simp only [Value.slice.injEq, Option.some.injEq, Addr.mk.injEq, and_true, true_and] at hv'
  obtain ⟨rfl, rfl⟩ := hv'
  have k0 := (hcell (v * 4) (by omega)).trans (pl4_get vs (fun x => .int .i64 (s.ba x)) (fun x => .int .i64 (s.tn x : Nat)) (fun x => .int .i64 (s.lw x : Nat)) n v hv).1
  have hSV := h3 v hv
  rw [hs] at hSV
  obtain ⟨ao, ca, hvs, q1, q2, q3⟩ := hSV
  simp only [List.length_cons] at hvs q1 q2 q3
  obtain ⟨gs, off, rfl, q4, q5, q6⟩ := q3 (by omega)
  rw [hvs] at k0
  unfold maxLen at q2
  clear hcell q3
  go_upto_block 0 with fail
  obtain ⟨nv, hnv⟩ : ∃ nv, nv = Value.slice (if ca = 1 then some ⟨gs, off, none⟩ else some ⟨gs, off + 2, none⟩) t.length (ca - 1) := ⟨_, rfl⟩
  rw [← hnv]
  have s2 : Step (fun k => k = L + 1) w1 o1 (w1.setCell ⟨gp, v * 4, none⟩ nv) o1 := setStep _ w1 o1 ⟨gp, v * 4, none⟩ nv hg
  have A2 := A0.step s2 (by omega)
  have K2 : Wk (w1.setCell ⟨gp, v * 4, none⟩ nv) o1 L p n la es { s with st := put8 s.st v t } gp cp gb cb vp vo ve vr (put8 vs v nv) := by
    refine ⟨h1.step s2 (by omega), ?_, fun x hx => ?_, h4.step s2 (by omega), h5.step s2 (by omega), h6.step s2 (by omega), h7.step s2 (by omega), h8.step s2 (by omega)⟩
    · have := h2.store (v * 4) nv
      unfold plc at this
      rw [(pl4_set _ _ _ _ _ n hv).1] at this
      exact this
    · by_cases e2 : x = v
      · subst e2
        have hst : ({ s with st := put8 s.st x t } : Dst).st x = t := put8_at _ _ _
        rw [hst, put8_at]
        have := (show VwS w1 o1 (L + 10 + x) nv t from by
          refine ⟨_, ca - 1, hnv, by omega, by unfold maxLen; omega, fun h0 => ⟨gs, off + 2, if_neg (by omega), q4, q5, fun j hj => ?_⟩⟩
          have := q6 (j + 1) (by omega)
          simp only [List.getElem_cons_succ] at this
          rw [show off + 2 + j * 2 = off + (j + 1) * 2 by omega]
          exact this)
        exact this.step s2 (by omega)
      · have hst : ({ s with st := put8 s.st v t } : Dst).st x = s.st x := put8_ne _ _ e2
        rw [hst, put8_ne _ _ e2]
        exact (h3 x hx).step s2 (by omega)
  have sw2 : Step (WL L) w o (w1.setCell ⟨gp, v * 4, none⟩ nv) o1 := (sw1.mono fun _ h => h.elim).trans (s2.mono fun k hk => ⟨by omega, by omega⟩)
  clear s2 sw1 h1 h2 h3 h4 h5 h6 h7 h8 c0 c1 c2 c3 c4 c5 c6 hf hvs q1 q2 q4 q5 q6 k0 hfr hlt A0
  generalize w1.setCell ⟨gp, v * 4, none⟩ nv = w2 at K2 sw2 A2 ⊢
  clear hnv
  generalize put8 vs v nv = vs2 at K2
  have hbv : ({ s with st := put8 s.st v t } : Dst).ba = s.ba := rfl
  obtain ⟨s2, hs2⟩ : ∃ s2 : Dst, s2 = { s with st := put8 s.st v t } := ⟨_, rfl⟩
  rw [← hs2] at K2
  have e1 : s2.ba = s.ba := by rw [hs2]
  have e2 : s2.tn = s.tn := by rw [hs2]
  have e3 : s2.lw = s.lw := by rw [hs2]
  obtain ⟨h1, h2, h3, h4, h5, h6, h7, h8⟩ := K2
  have KK : Hid (Wk w2 o1 L p n la es s2 gp cp gb cb vp vo ve vr vs2) := ⟨h1, h2, h3, h4, h5, h6, h7, h8⟩
  obtain ⟨c0, c1, c2, c3, c4, c5, c6, hf⟩ := h1.cells7
  obtain ⟨a0, a1, af⟩ := A2.cells2
  obtain ⟨g, cap, hv', hg, hc, hm, hlt, hcell, hfr⟩ := h2.pos (by omega)
  simp only [Value.slice.injEq, Option.some.injEq, Addr.mk.injEq, and_true, true_and] at hv'
  obtain ⟨rfl, rfl⟩ := hv'
  obtain ⟨_, k1, _, k3⟩ := pl4_get vs2 (fun x => .int .i64 (s2.ba x)) (fun x => .int .i64 (s2.tn x : Nat)) (fun x => .int .i64 (s2.lw x : Nat)) n v hv
  obtain ⟨_, _, j2, _⟩ := pl4_get vs2 (fun x => .int .i64 (s2.ba x)) (fun x => .int .i64 (s2.tn x : Nat)) (fun x => .int .i64 (s2.lw x : Nat)) n y hy
  replace k1 := (hcell (v * 4 + 1) (by omega)).trans k1
  replace k3 := (hcell (v * 4 + 3) (by omega)).trans k3
  replace j2 := (hcell (y * 4 + 2) (by omega)).trans j2
  simp only [e1, e2, e3] at k1 k3 j2
  have hyI : (y : Int) < (n : Int) := by omega
  clear hcell h3 h4 h5 h6 h7 h8 h1
  by_cases hb : s.ba v = (e : Nat)
  · have hbq : ((e : Int) == s.ba v) = true := by rw [hb]; simp
    rw [hb] at k1
    clear hbq
    go_wp2
    go_region
    go_wp2
    go_end0
    refine ⟨rfl, o1, ?_, sw2.drew⟩
    rw [HA.out hb, ← hs2]; exact ⟨gp, cp, gb, cb, vp, vo, ve, vr, vs2, KK.out⟩
  · have hbq : ((e : Int) == s.ba v) = false := by simp only [beq_eq_false_iff_ne, ne_eq]; exact fun q => hb q.symm
    have HB' : Hid (0 < s.tn y → sf = { s with st := put8 s.st v t, lw := put8 s.lw v (min (s.lw v) (s.tn y)) }) := HB.out hb
    have HC' : Hid (s.tn y = 0 → sf = enterS { s with st := put8 s.st v t } y (e : Nat)) := HC.out hb
    clear HA HB HC
    generalize s.ba v = bav at k1 hbq hb
    have hsn := seen_w w2.drew o1 L p n la es s2 y ⟨gp, cp, gb, cb, vp, vo, ve, vr, vs2, KK.out⟩ hn hy
    rw [e2] at hsn
    have sw3 : Step (WL L) w o w2.drew o1 := sw2.drew
    have KK3 : Hid (Wk w2.drew o1 L p n la es s2 gp cp gb cb vp vo ve vr vs2) := KK.out
    go_wp2_with fail
    go_region
    go_wp2_with fail
    refine hsn.mono ?_
    rintro e' w' ⟨rfl, rfl⟩
    clear hsn
    by_cases ht0 : 0 < s.tn y
    · have HR : Hid (sf = { s with st := put8 s.st v t, lw := put8 s.lw v (min (s.lw v) (s.tn y)) }) := HB'.out ht0
      generalize hT : s.tn y = ty at j2 ht0 HR hty
      generalize hLw : s.lw v = lv at k3 HR hlw
      clear HB' HC' hb hbq
      replace KK3 := KK3.out
      have KS : Hid (Wk w2.drew o1 L p n la es s2 gp cp gb cb vp vo ve vr vs2) := KK3
      clear KK KK3
      have j2' : w2.drew.cell? ⟨gp, y * 4 + 2, none⟩ = some (.int .i64 (ty : Nat)) := j2
      have k3' : w2.drew.cell? ⟨gp, v * 4 + 3, none⟩ = some (.int .i64 (lv : Nat)) := k3
      have fr' : ∀ j, w2.drew.frozen? ⟨gp, j, none⟩ = false := hfr
      have a1' : w2.drew.cell? ⟨b0, 1, none⟩ = some (.int .i64 (y : Nat)) := a1
      have c0' : w2.drew.cell? ⟨p, 0, none⟩ = some (.slice (some ⟨gp, 0, none⟩) n cp) := c0
      clear j2 k3 hfr a1 c0 c1 c2 c3 c4 c5 c6 hf af a0 k1 A2 h2 sw2 hlt
      generalize w2.drew = w3 at j2' k3' fr' a1' c0' KS sw3 ⊢
      have hmin : (if ty < lv then (ty : Int) else (lv : Int)) = ((min lv ty : Nat) : Int) := by split <;> omega
      go_wp2
      go_region
      have RES : ∃ o', Wm (w3.setCell ⟨gp, v * 4 + 3, none⟩ (.int .i64 ((min lv ty : Nat) : Int))).drew o' L p n la es sf ∧ Step (WL L) w o (w3.setCell ⟨gp, v * 4 + 3, none⟩ (.int .i64 ((min lv ty : Nat) : Int))).drew o' := by
        obtain ⟨h1, h2, h3, h4, h5, h6, h7, h8⟩ := KS.out
        have s4 : Step (fun k => k = L + 1) w3 o1 (w3.setCell ⟨gp, v * 4 + 3, none⟩ (.int .i64 ((min lv ty : Nat) : Int))) o1 := setStep _ w3 o1 ⟨gp, v * 4 + 3, none⟩ _ hg
        refine ⟨o1, ⟨gp, cp, gb, cb, vp, vo, ve, vr, vs2, ?_⟩, (sw3.trans (s4.mono fun k hk => ⟨by omega, by omega⟩)).drew⟩
        rw [HR.out]
        have hR := h2.store (v * 4 + 3) (.int .i64 ((min lv ty : Nat) : Int))
        unfold plc at hR
        rw [(pl4_set _ _ _ _ _ n hv).2.2.2, put8_map (fun x : Nat => Value.int .i64 (x : Int)) s2.lw, e1, e2, e3] at hR
        replace h1 := h1.step s4 (by omega)
        replace h3 := fun x hx => (h3 x hx).step s4 (by omega)
        replace h4 := h4.step s4 (by omega)
        replace h5 := h5.step s4 (by omega)
        replace h6 := h6.step s4 (by omega)
        replace h7 := h7.step s4 (by omega)
        replace h8 := h8.step s4 (by omega)
        subst hs2
        exact ⟨h1, hR, h3, h4, h5, h6, h7, h8⟩
      clear KS sw3
      go_wp2
      go_end0
      exact ⟨rfl, RES⟩
    · have HR : Hid (sf = enterS s2 y (e : Nat)) := by rw [hs2]; exact HC'.out (by omega)
      have hen := enter_w w2.drew o1 L p n la es s2 y (e : Nat) ⟨gp, cp, gb, cb, vp, vo, ve, vr, vs2, KK.out⟩ hn hy (by rw [hs2]; exact ht) (by rw [hs2]; exact hpl) (by rw [hs2]; exact ho) hla (by omega) (by omega)
      have a0' : w2.drew.cell? ⟨b0, 0, none⟩ = some (.int .i64 (e : Nat)) := a0
      have a1' : w2.drew.cell? ⟨b0, 1, none⟩ = some (.int .i64 (y : Nat)) := a1
      clear HB' HC' hb hbq KK KK3 hs2 a0 a1
      generalize w2.drew = w3 at hen a0' a1' sw3 ⊢
      go_wp2_with fail
      refine hen.mono ?_
      rintro e' w' ⟨rfl, o4, W4, s4⟩
      have RES : ∃ o', Wm w' o' L p n la es sf ∧ Step (WL L) w o w' o' := ⟨o4, by rw [HR.out]; exact W4, sw3.trans s4⟩
      clear W4 s4 hen sw3 sw2
      go_wp2
      go_end0
      exact ⟨rfl, RES⟩
/-- What a step comes to. -/
def advS (s : Dst) (v e y : Nat) (t : List (Nat × Nat)) : Dst := if s.ba v = (e : Nat) then { s with st := put8 s.st v t } else if 0 < s.tn y then { s with st := put8 s.st v t, lw := put8 s.lw v (min (s.lw v) (s.tn y)) } else enterS { s with st := put8 s.st v t } y (e : Nat)
theorem advance_w (w : World) (o : Nat → Nat) (L p n la : Nat) (es : List EdT) (s : Dst) (ps : List Nat) (v e y : Nat) (t : List (Nat × Nat)) (h : Wm w o L p n la es s) (hn : n ≤ 64) (hv : v < n) (hy : y < n) (hp : s.path = ps ++ [v]) (hs : s.st v = (e, y) :: t) (ht : s.turns ≤ 64) (hpl : s.path.length ≤ 64) (ho : s.op.length ≤ 64) (hla : la < L) (he : e < 1000) (hlw : s.lw v ≤ 64) (hty : s.tn y ≤ 64) (htt : t.length < 1000) :
    Calls Try.prog 34 #[.pointer (some ⟨p, 0, none⟩)] w fun e' w' => e' = .returned (.tuple #[]) ∧ ∃ o', Wm w' o' L p n la es (advS s v e y t) ∧ Step (WL L) w o w' o' :=
  adv_core w o L p n la es s ps v e y t h hn hv hy hp hs ht hpl ho hla he hlw hty htt _ (fun q => if_pos q) (fun q q2 => by unfold advS; rw [if_neg q, if_pos q2]) (fun q q2 => by unfold advS; rw [if_neg q, if_neg (by omega)])
end Go.Proofs.Ytanahbkkgppfnaa
