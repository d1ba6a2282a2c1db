/- Whether a list that was lent is kept. -/
import Derived.Test.YtanahbkkgppfnaaLent8
namespace Go.Proofs.Ytanahbkkgppfnaa
open Go.ChangeShapes Go.WideShapes Go.ChangeAt Go.RowKit
set_option linter.unusedVariables false
set_option linter.unusedSimpArgs false

def KeptOut (w : World) (o : Nat → Nat) (lb : Nat) (e : Ending) (w' : World) : Prop := ∃ o', e = .returned (.bool true) ∧ Step (fun k => k = lb) w o w' o'
set_option maxRecDepth 100000 in
set_option maxHeartbeats 8000000 in
theorem kept_w (w : World) (o : Nat → Nat) (la lb g c : Nat) (vl : Value) (es : List EdT) (h : VwE w o la vl es) (hes : es.length ≤ 2000) (R : Row w o lb 36 4 (.slice (some ⟨g, 0, none⟩) (es.length + 2) c) (es.length + 2) (eev (es ++ two8))) :
    Calls Try.prog 8 #[.slice (some ⟨g, 0, none⟩) es.length c, vl] w fun e w' => KeptOut w o lb e w' := by
  have HV : Hid (VwE w o la vl es) := h
  have hf : ∃ ao cap, vl = .slice ao es.length cap := by
    obtain ⟨ao, cap, hv, _⟩ := h
    exact ⟨ao, cap, hv⟩
  obtain ⟨ao, cap, rfl⟩ := hf
  clear h
  obtain ⟨_, hc1, hc2⟩ := R.cap
  have hc1I : (es.length : Int) + 2 ≤ (c : Int) := by omega
  unfold maxLen at hc2
  obtain ⟨g', cap', hv', hg, _, _, hlt, hcell, hfr⟩ := R.pos (by omega)
  simp only [Value.slice.injEq, Option.some.injEq, Addr.mk.injEq, and_true, true_and] at hv'
  obtain ⟨rfl, rfl⟩ := hv'
  have hl2 : (es ++ two8).length = es.length + 2 := by simp [two8]
  have t1 : w.cell? ⟨g, es.length * 4, none⟩ = some (.int .i64 7001) := by
    rw [hcell _ (by omega)]
    have := eev_get (es ++ two8) es.length 0 (by omega) (by omega)
    simp only [Nat.add_zero] at this
    rw [this]
    simp [two8, ev8]
  have t2 : w.cell? ⟨g, (es.length + 1) * 4, none⟩ = some (.int .i64 7002) := by
    rw [hcell _ (by omega)]
    have := eev_get (es ++ two8) (es.length + 1) 0 (by omega) (by omega)
    simp only [Nat.add_zero] at this
    rw [this]
    simp [two8, ev8]
  have HC : Hid (∀ k (hk : k < es.length), w.cell? ⟨g, k * 4, none⟩ = some (.int .i64 es[k].id) ∧ w.cell? ⟨g, k * 4 + 1, none⟩ = some (.int .i64 es[k].u) ∧ w.cell? ⟨g, k * 4 + 2, none⟩ = some (.int .i64 es[k].v) ∧ w.cell? ⟨g, k * 4 + 3, none⟩ = some (.int .i64 es[k].wt)) := fun k hk => by
    have e0 := eev_get (es ++ two8) k 0 (by omega) (by omega)
    have e1 := eev_get (es ++ two8) k 1 (by omega) (by omega)
    have e2 := eev_get (es ++ two8) k 2 (by omega) (by omega)
    have e3 := eev_get (es ++ two8) k 3 (by omega) (by omega)
    rw [List.getElem_append_left hk] at e0 e1 e2 e3
    rw [hcell (k * 4) (by omega), hcell (k * 4 + 1) (by omega), hcell (k * 4 + 2) (by omega), hcell (k * 4 + 3) (by omega), e1, e2, e3]
    exact ⟨e0, rfl, rfl, rfl⟩
  have HR : Hid (Row w o lb 36 4 (.slice (some ⟨g, 0, none⟩) (es.length + 2) c) (es.length + 2) (eev (es ++ two8))) := R
  have HO : Hid (o g = lb) := hg
  clear R hcell hg hfr hl2
  go_enter Try.func8, Try.ntmps8
  go_upto_region 3 with fail
  clear t1 t2
  go_wp2_with fail
  go_loopg [6, 7] es.length (fun gh vb vi wr => ∃ k m, k ≤ es.length ∧ gh = es.length - k ∧ vi = .int .i64 (k : Nat) ∧ vb = .bool true ∧ wr = w.drewN m)
  case atStart => exact ⟨0, 0, by omega, by omega, by go_num, rfl, rfl⟩
  case round =>
    obtain ⟨k, m, hk, rfl, rfl, rfl, rfl⟩ := hrel
    by_cases hkn : k < es.length
    · have hkI : (k : Int) < (es.length : Int) := by omega
      have hk2I : (k : Int) < (es.length : Int) + 2 := by omega
      obtain ⟨b0, b1, b2, b3⟩ := HC.out k hkn
      obtain ⟨ao', ca', hvv, _, _, hp⟩ := HV.out
      simp only [Value.slice.injEq, true_and] at hvv
      obtain ⟨rfl, rfl⟩ := hvv
      obtain ⟨gl, off, rfl, q1, q2, q3⟩ := hp (by omega)
      obtain ⟨x0, x1, x2, x3⟩ := q3 k hkn
      generalize es[k].id = y0 at x0 b0
      generalize es[k].u = y1 at x1 b1
      generalize es[k].v = y2 at x2 b2
      generalize es[k].wt = y3 at x3 b3
      clear hp q3 q1 q2
      go_wp2_with fail
      go_quiet (fail)
      go_wp2
      go_roundg (es.length - (k + 1))
      case measure => omega
      case rel => exact ⟨k + 1, m + nq, by omega, rfl, by go_num, rfl, rfl⟩
    · obtain rfl : k = es.length := by omega
      have S0 : ∃ xs o', Row (w.drewN m) o' lb 36 4 (.slice (some ⟨g, 0, none⟩) (es.length + 2) c) (es.length + 2) xs ∧ Step (fun k => k = lb) w o (w.drewN m) o' := ⟨_, o, HR.out.step (drewStep (fun _ => False) w o m) (fun h => h), (Step.refl _ _ _).drewN m⟩
      generalize w.drewN m = wA at S0 ⊢
      clear HC HR HV
      go_wp2_with fail
      go_loopg [8] (es.length + 2) (fun gh vi wr => ∃ k, k ≤ es.length + 2 ∧ gh = es.length + 2 - k ∧ vi = .int .i64 (k : Nat) ∧ ∃ xs o', Row wr o' lb 36 4 (.slice (some ⟨g, 0, none⟩) (es.length + 2) c) (es.length + 2) xs ∧ Step (fun k => k = lb) w o wr o')
      case atStart => exact ⟨0, by omega, by omega, by go_num, S0⟩
      case round =>
        clear S0
        obtain ⟨k, hk, rfl, rfl, xs, o', RR, SS⟩ := hrel
        by_cases hkn : k < es.length + 2
        · have hkI : (k : Int) < (es.length : Int) + 2 := by omega
          have hxl := RR.len
          obtain ⟨g2, c2, hv2, hg2, _, _, hlt2, hcell2, hfr2⟩ := RR.pos (by omega)
          simp only [Value.slice.injEq, Option.some.injEq, Addr.mk.injEq, and_true, true_and] at hv2
          obtain ⟨rfl, rfl⟩ := hv2
          have y0 := hcell2 (k * 4) (by omega)
          have y1 := hcell2 (k * 4 + 1) (by omega)
          have y2 := hcell2 (k * 4 + 2) (by omega)
          have y3 := hcell2 (k * 4 + 3) (by omega)
          rw [List.getElem?_eq_getElem (by omega)] at y0 y1 y2 y3
          generalize xs[k * 4] = u0 at y0
          generalize xs[k * 4 + 1] = u1 at y1
          generalize xs[k * 4 + 2] = u2 at y2
          generalize xs[k * 4 + 3] = u3 at y3
          have R4 := (((RR.store (k * 4) (.int .i64 (-5))).store (k * 4 + 1) (.int .i64 1)).store (k * 4 + 2) (.int .i64 1)).store (k * 4 + 3) (.int .i64 0)
          have S4 := (((SS.setCell ⟨g, k * 4, none⟩ (.int .i64 (-5)) hg2).setCell ⟨g, k * 4 + 1, none⟩ (.int .i64 1) hg2).setCell ⟨g, k * 4 + 2, none⟩ (.int .i64 1) hg2).setCell ⟨g, k * 4 + 3, none⟩ (.int .i64 0) hg2
          have HN : Hid (∃ xs o', Row _ o' lb 36 4 (.slice (some ⟨g, 0, none⟩) (es.length + 2) c) (es.length + 2) xs ∧ Step (fun k => k = lb) w o _ o') := ⟨_, o', R4, S4⟩
          clear R4 S4 RR SS hcell2 hxl
          go_wp2
          go_roundg (es.length + 2 - (k + 1))
          case measure => omega
          case rel => exact ⟨k + 1, by omega, rfl, by go_num, HN.out⟩
        · obtain rfl : k = es.length + 2 := by omega
          have HF : Hid (KeptOut w o lb (.returned (.bool true)) wr) := ⟨o', rfl, SS⟩
          clear RR SS
          go_wp2
          go_ret
          exact HF.out
end Go.Proofs.Ytanahbkkgppfnaa
