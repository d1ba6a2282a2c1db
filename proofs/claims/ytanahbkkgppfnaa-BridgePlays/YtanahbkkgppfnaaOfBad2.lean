/- Of, where an edge may not be. -/
import Derived.Test.YtanahbkkgppfnaaOfBad
import Derived.Test.YtanahbkkgppfnaaRef8M
namespace Go.Proofs.Ytanahbkkgppfnaa
open Go.ChangeShapes Go.WideShapes Go.ChangeAt Go.RowKit
set_option linter.unusedVariables false
set_option linter.unusedSimpArgs false

def BadOut (w : World) (o : Nat → Nat) (e : Ending) (w' : World) : Prop := ∃ o', e = .returned (.tuple #[.pointer none, .int .i64 81]) ∧ Step (fun _ => False) w o w' o'
set_option maxRecDepth 100000 in
set_option maxHeartbeats 4000000 in
theorem of_bad (w : World) (o : Nat → Nat) (L n la : Nat) (vl : Value) (es : List EdT) (h : VwE w o la vl es) (hn1 : 1 ≤ n) (hn : n ≤ 64) (hes : es.length ≤ 192) (hbad : ¬ OkE n es) :
    Calls Try.prog 7 #[.int .i64 (n : Nat), vl] w fun e w' => BadOut w o e w' := by
  have HV : Hid (VwE w o la vl es) := h
  have HBAD : Hid (¬ OkE n es) := hbad
  obtain ⟨al, cl, rfl, hcl, hml, hpl⟩ := h
  clear hpl hbad
  unfold maxLen at hml
  have i1 : ¬ ((n : Int) < 1) := by omega
  have i2 : ¬ ((64 : Int) < (n : Int)) := by omega
  have i3 : ¬ ((192 : Int) < (es.length : Int)) := by omega
  go_enter Try.func7, Try.ntmps7
  go_wp2_with fail
  go_loopg [23] es.length (fun gh vi wr => ∃ k o', k ≤ es.length ∧ gh = es.length - k ∧ vi = .int .i64 (k : Nat) ∧ (∀ j, j < k → OkAt n es j) ∧ Step (fun _ => False) w o wr o')
  case atStart => exact ⟨0, o, by omega, by omega, by go_num, fun j hj => by omega, Step.refl _ _ _⟩
  case round =>
    obtain ⟨k, o', hk, rfl, rfl, hok, sk⟩ := hrel
    by_cases hkn : k < es.length
    · have hkI : (k : Int) < (es.length : Int) := by omega
      have HVr := HV.out.step sk (fun h => h)
      have HVk : VwE wr o' la (.slice al k cl) (es.take k) := by
        obtain ⟨ao', ca', hvv, r1, r2, hp⟩ := HVr
        simp only [Value.slice.injEq, true_and] at hvv
        obtain ⟨rfl, rfl⟩ := hvv
        have hlk : (es.take k).length = k := by simp; omega
        refine ⟨al, cl, by rw [hlk], by omega, r2, fun h0 => ?_⟩
        obtain ⟨g, off, r3, r4, r5, r6⟩ := hp (by omega)
        refine ⟨g, off, r3, r4, r5, fun j hj => ?_⟩
        rw [List.getElem_take]
        exact r6 j (by omega)
      obtain ⟨ao', ca', hvv, _, _, hp⟩ := HVr
      simp only [Value.slice.injEq, true_and] at hvv
      obtain ⟨rfl, rfl⟩ := hvv
      obtain ⟨gl, off, rfl, q1, q2, q3⟩ := hp (by omega)
      obtain ⟨x0, x1, x2, x3⟩ := q3 k hkn
      have z00 : Blk (wr.alloc (.cells #[.int .i64 0, .int .i64 0, .int .i64 0, .int .i64 0] 36)) (newLab wr o' (L + 8)) (L + 8) wr.heap.size (.cells #[.int .i64 0, .int .i64 0, .int .i64 0, .int .i64 0] 36 (0, 0)) := ⟨heap_alloc_new wr _, newLab_new (Nat.le_refl _)⟩
      obtain ⟨a0, a1, a2, a3, af⟩ := z00.cells4
      have A0 : Blk (wr.alloc (.cells #[.int .i64 es[k].id, .int .i64 es[k].u, .int .i64 es[k].v, .int .i64 es[k].wt] 36)) (newLab wr o' (L + 8)) (L + 8) wr.heap.size (.cells #[.int .i64 es[k].id, .int .i64 es[k].u, .int .i64 es[k].v, .int .i64 es[k].wt] 36 (0, 0)) := ⟨heap_alloc_new wr _, newLab_new (Nat.le_refl _)⟩
      have s0 := newStep (fun _ => False) wr o' (L + 8) (.cells #[.int .i64 es[k].id, .int .i64 es[k].u, .int .i64 es[k].v, .int .i64 es[k].wt] 36)
      have V1 := HVk.step s0 (fun h => h)
      have S1 : Step (fun _ => False) w o _ _ := sk.trans s0
      have HOKN : Hid ((∀ j, j < k → OkAt n es j) ∧ (RightE n es[k] → (∀ x, x ∈ es.take k → x.id ≠ es[k].id) → ∀ j, j < k + 1 → OkAt n es j)) := ⟨hok, fun r1 r2 j hj => by
        by_cases q : j = k
        · subst q; exact fun _ => ⟨r1, r2⟩
        · exact hok j (by omega)⟩
      generalize hx : es[k] = x at x0 x1 x2 x3 A0 V1 S1 s0 HOKN
      clear hp q3 z00 HVk sk s0 hx hok
      go_upto_region 6 with fail
      clear a0 a1 a2 a3 af x0 x1 x2 x3 q1 q2
      obtain ⟨b0, hb0⟩ : ∃ b0, b0 = wr.heap.size := ⟨_, rfl⟩
      rw [← hb0] at A0 ⊢
      generalize wr.alloc (.cells #[.int .i64 x.id, .int .i64 x.u, .int .i64 x.v, .int .i64 x.wt] 36) = w5 at A0 V1 S1 ⊢
      generalize newLab wr o' (L + 8) = o5 at A0 V1 S1
      clear hb0
      obtain ⟨y0, y1, y2, y3, yf⟩ := A0.cells4
      have hkc : k ≤ cl := by omega
      have hkcI : (k : Int) ≤ (cl : Int) := by omega
      by_cases hr : RightE n x
      · have hrt := fun wx ox => right_true wx ox 0 n x hr hn
        unfold edv at hrt
        by_cases ht : ∀ y, y ∈ es.take k → y.id ≠ x.id
        · have htw := fun wx ox hv => twice_false wx ox la 0 (.slice (some ⟨gl, off, none⟩) k cl) (es.take k) x.id hv ht (by simp; omega)
          have HN : Hid (∀ j, j < k + 1 → OkAt n es j) := HOKN.out.2 hr ht
          clear HOKN ht
          go_cut [39] (fun vb wx => vb = .bool false ∧ ∃ o', Step (fun _ => False) w o wx o')
          case first =>
            go_wp2_with fail
            go_region_held3 (fun wx => wx.cell? ⟨b0, 0, none⟩ = some (.int .i64 x.id) ∧ wx.cell? ⟨b0, 1, none⟩ = some (.int .i64 x.u) ∧ wx.cell? ⟨b0, 2, none⟩ = some (.int .i64 x.v) ∧ wx.cell? ⟨b0, 3, none⟩ = some (.int .i64 x.wt)) (first | exact ⟨g0, g1, g2, g3⟩ | exact ⟨e0, e1, e2, e3⟩ | go_keep) (first | (go_at_call 16; refine (hrt _ o5).mono ?_; rintro e w6 ⟨rfl, o6, s6⟩; have s56 : Step (fun _ => False) w5 o5 w6 o6 := (Step.refl _ w5 o5).drew.trans s6; have A6 := A0.step s56 (fun h => h); have V6 := V1.step s56 (fun h => h); obtain ⟨e0, e1, e2, e3, ef⟩ := A6.cells4) | (go_at_call 17; refine (htw _ o6 V6).mono ?_; rintro e w7 ⟨rfl, o7, s7⟩; have A7 := A6.step s7 (fun h => h); obtain ⟨g0, g1, g2, g3, gf⟩ := A7.cells4))
            all_goals (
              have S7 : Hid (Step (fun _ => False) w o w7 o7) := (S1.trans s56).trans s7
              go_wp2
              go_meet
              exact ⟨rfl, o7, S7.out⟩)
          case rest =>
            obtain ⟨rfl, o7, S7⟩ := hcut
            clear S1 A0 V1 hrt htw y0 y1 y2 y3 yf hr
            go_wp2
            go_roundg (es.length - (k + 1))
            case measure => omega
            case rel => exact ⟨k + 1, o7, by omega, rfl, by go_num, HN.out, S7⟩
        · have ht' : ∃ y, y ∈ es.take k ∧ y.id = x.id := by
            apply Classical.byContradiction
            intro hc
            exact ht fun y hy q => hc ⟨y, hy, q⟩
          have htw := fun wx ox hv => twice_true wx ox la 0 (.slice (some ⟨gl, off, none⟩) k cl) (es.take k) x.id hv ht' (by simp; omega)
          clear HOKN ht ht'
          go_wp2_with fail
          go_region_held3 (fun wx => wx.cell? ⟨b0, 0, none⟩ = some (.int .i64 x.id) ∧ wx.cell? ⟨b0, 1, none⟩ = some (.int .i64 x.u) ∧ wx.cell? ⟨b0, 2, none⟩ = some (.int .i64 x.v) ∧ wx.cell? ⟨b0, 3, none⟩ = some (.int .i64 x.wt)) (first | exact ⟨g0, g1, g2, g3⟩ | exact ⟨e0, e1, e2, e3⟩ | go_keep) (first | (go_at_call 16; refine (hrt _ o5).mono ?_; rintro e w6 ⟨rfl, o6, s6⟩; have s56 : Step (fun _ => False) w5 o5 w6 o6 := (Step.refl _ w5 o5).drew.trans s6; have A6 := A0.step s56 (fun h => h); have V6 := V1.step s56 (fun h => h); obtain ⟨e0, e1, e2, e3, ef⟩ := A6.cells4) | (go_at_call 17; refine (htw _ o6 V6).mono ?_; rintro e w7 ⟨rfl, o7, s7⟩; have A7 := A6.step s7 (fun h => h); obtain ⟨g0, g1, g2, g3, gf⟩ := A7.cells4))
          all_goals (
            have RES : BadOut w o (.returned (.tuple #[.pointer none, .int .i64 81])) w7 := ⟨o7, rfl, (S1.trans s56).trans s7⟩
            clear s56 s7
            go_wp2
            go_ret2
            exact RES)
      · have hrt := fun wx ox => right_false wx ox 0 n x hr hn
        unfold edv at hrt
        clear HOKN
        go_wp2_with fail
        refine wp_region_held_drew (S := fun wx => wx.cell? ⟨b0, 0, none⟩ = some (.int .i64 x.id) ∧ wx.cell? ⟨b0, 1, none⟩ = some (.int .i64 x.u) ∧ wx.cell? ⟨b0, 2, none⟩ = some (.int .i64 x.v) ∧ wx.cell? ⟨b0, 3, none⟩ = some (.int .i64 x.wt)) (by kernel_rfl) ⟨y0, y1, y2, y3⟩ (fun hHeld => ?_)
        refine wpAnyH_take (i := 0) (v := ?v1) rfl (by kernel_rfl) (by kernel_rfl) (by kernel_rfl) (fun _ _ _ h => h) (Or.inl ⟨by rfl, ?hy1⟩) (by assumption) ?rest1
        case hy1 => (intro w hSw; (try dsimp only at hSw); go_simp; all_goals (with_reducible rfl))
        simp only [Act.put, List.getElem_toArray, List.getElem_cons_zero, List.getElem_cons_succ, List.setIfInBounds_toArray, List.set_cons_zero, List.set_cons_succ]
        refine wpAnyH_take (i := 1) (v := ?v2) rfl (by kernel_rfl) (by kernel_rfl) (by kernel_rfl) (fun _ _ _ h => h) (Or.inl ⟨by rfl, ?hy2⟩) (by assumption) ?rest2
        case hy2 => (intro w hSw; (try dsimp only at hSw); go_simp; all_goals (with_reducible rfl))
        simp only [Act.put, List.getElem_toArray, List.getElem_cons_zero, List.getElem_cons_succ, List.setIfInBounds_toArray, List.set_cons_zero, List.set_cons_succ]
        refine wpAnyH_ready (rs := [2]) (by kernel_rfl) (by simp) ?_
        refine AllReadyH.cons rfl (fun K hK => ?_) AllReadyH.nil
        go_simp
        refine (hrt _ o5).mono ?_
        rintro e w6 ⟨rfl, o6, s6⟩
        have s56 : Step (fun _ => False) w5 o5 w6 o6 := (Step.refl _ w5 o5).drew.trans s6
        have A6 := A0.step s56 (fun h => h)
        obtain ⟨e0, e1, e2, e3, ef⟩ := A6.cells4
        dsimp only
        refine hK.out _ _ ⟨e0, e1, e2, e3⟩ (fun hHeld => ?_)
        clear hK K
        refine wpAnyH_take (i := 3) (v := ?v3) rfl (by kernel_rfl) (by kernel_rfl) (by kernel_rfl) (fun _ _ _ h => h) (Or.inl ⟨by rfl, ?hy3⟩) (by assumption) ?rest3
        case hy3 => (intro w hSw; (try dsimp only at hSw); go_simp; all_goals (with_reducible rfl))
        simp only [Act.put, List.getElem_toArray, List.getElem_cons_zero, List.getElem_cons_succ, List.setIfInBounds_toArray, List.set_cons_zero, List.set_cons_succ]
        refine wpAnyH_take (i := 4) (v := ?v4) rfl (by kernel_rfl) (by kernel_rfl) (by kernel_rfl) (fun _ _ _ h => h) (Or.inl ⟨by rfl, ?hy4⟩) (by assumption) ?rest4
        case hy4 => (intro w hSw; (try dsimp only at hSw); go_simp; all_goals (with_reducible rfl))
        simp only [Act.put, List.getElem_toArray, List.getElem_cons_zero, List.getElem_cons_succ, List.setIfInBounds_toArray, List.set_cons_zero, List.set_cons_succ]
        refine wpAnyH_take (i := 5) (v := undef) rfl (by kernel_rfl) (by kernel_rfl) (by kernel_rfl) (fun _ _ _ h => h) (Or.inr ⟨?hw1, rfl⟩) (by assumption) ?un1
        case hw1 => kernel_rfl
        simp only [Act.put, List.getElem_toArray, List.getElem_cons_zero, List.getElem_cons_succ, List.setIfInBounds_toArray, List.set_cons_zero, List.set_cons_succ]
        refine wpAnyH_take (i := 6) (v := undef) rfl (by kernel_rfl) (by kernel_rfl) (by kernel_rfl) (fun _ _ _ h => h) (Or.inr ⟨?hw2, rfl⟩) (by assumption) ?un2
        case hw2 => kernel_rfl
        simp only [Act.put, List.getElem_toArray, List.getElem_cons_zero, List.getElem_cons_succ, List.setIfInBounds_toArray, List.set_cons_zero, List.set_cons_succ]
        refine wpAnyH_take (i := 7) (v := undef) rfl (by kernel_rfl) (by kernel_rfl) (by kernel_rfl) (fun _ _ _ h => h) (Or.inr ⟨?hw3, rfl⟩) (by assumption) ?un3
        case hw3 => kernel_rfl
        simp only [Act.put, List.getElem_toArray, List.getElem_cons_zero, List.getElem_cons_succ, List.setIfInBounds_toArray, List.set_cons_zero, List.set_cons_succ]
        refine wpAnyH_take (i := 8) (v := undef) rfl (by kernel_rfl) (by kernel_rfl) (by kernel_rfl) (fun _ _ _ h => h) (Or.inr ⟨?hw4, rfl⟩) (by assumption) ?un4
        case hw4 => kernel_rfl
        simp only [Act.put, List.getElem_toArray, List.getElem_cons_zero, List.getElem_cons_succ, List.setIfInBounds_toArray, List.set_cons_zero, List.set_cons_succ]
        refine wpAnyH_take (i := 9) (v := undef) rfl (by kernel_rfl) (by kernel_rfl) (by kernel_rfl) (fun _ _ _ h => h) (Or.inr ⟨?hw5, rfl⟩) (by assumption) ?un5
        case hw5 => kernel_rfl
        simp only [Act.put, List.getElem_toArray, List.getElem_cons_zero, List.getElem_cons_succ, List.setIfInBounds_toArray, List.set_cons_zero, List.set_cons_succ]
        refine wpAnyH_take (i := 10) (v := undef) rfl (by kernel_rfl) (by kernel_rfl) (by kernel_rfl) (fun _ _ _ h => h) (Or.inr ⟨?hw6, rfl⟩) (by assumption) ?un6
        case hw6 => kernel_rfl
        simp only [Act.put, List.getElem_toArray, List.getElem_cons_zero, List.getElem_cons_succ, List.setIfInBounds_toArray, List.set_cons_zero, List.set_cons_succ]
        refine wpAnyH_take (i := 11) (v := ?v11) rfl (by kernel_rfl) (by kernel_rfl) (by kernel_rfl) (fun _ _ _ h => h) (Or.inl ⟨by rfl, ?hy11⟩) (by assumption) ?rest11
        case hy11 => (intro w hSw; (try dsimp only at hSw); go_simp; all_goals (with_reducible rfl))
        simp only [Act.put, List.getElem_toArray, List.getElem_cons_zero, List.getElem_cons_succ, List.setIfInBounds_toArray, List.set_cons_zero, List.set_cons_succ]
        refine wpAnyH_done (by kernel_rfl) ?_ _
        have RES : BadOut w o (.returned (.tuple #[.pointer none, .int .i64 81])) w6 := ⟨o6, rfl, S1.trans s56⟩
        clear s56
        go_wp2
        go_ret2
        exact RES
    · obtain rfl : k = es.length := by omega
      exact absurd (fun j hj => hok j hj hj) HBAD.out
end Go.Proofs.Ytanahbkkgppfnaa
