/- The walk of settle. -/
import Derived.Test.YtffmlffhiimmdaaSet7
namespace Go.Proofs.Ytffmlffhiimmdaa
open Go.ChangeShapes Go.WideShapes Go.ChangeAt Go.RowKit Go.Maps
set_option linter.unusedVariables false

theorem Tx.mono7 {w : World} {o : Nat → Nat} {L p n : Nat} {ed : Nat → Option Ed} {R : Nat → List Nat} {m m' : Nat} (h : Tx w o L p n ed R m) (hm : m ≤ m') : Tx w o L p n ed R m' := by
  obtain ⟨h0, pt, bv, cap, bm, ⟨h1, h2, D, d1, d2, d3, d4⟩, h3⟩ := h
  exact ⟨h0, pt, bv, cap, bm, ⟨h1, h2, D, d1, by omega, d3, d4⟩, h3⟩
theorem ML.at {L k : Nat} (h1 : L ≤ k) (h2 : k < L + 4000000000010) : ML L k := ⟨h1, h2⟩

/-- Between two steps of settle. -/
def SetP (w : World) (o : Nat → Nat) (L p n bm q b0 b4 : Nat) (f : Nat → Option (Ed × Bool)) (ed : Nat → Option Ed) (R : Nat → List Nat) (m c : Nat) (ca cb : Array Value) (wx : World) : Prop :=
  ∃ o3, Blk wx o3 L p (.cells #[.int .i64 n, .map (some bm), .pointer (some ⟨q, 0, none⟩)] 68 (0, 0)) ∧ MsM wx o3 (L + 1) bm m f ∧ Tx wx o3 (L + 2) q n ed R c ∧ Blk wx o3 (L + 4000000000005) b0 (.cells ca 43 (0, 0)) ∧ Blk wx o3 (L + 4000000000007) b4 (.cells cb 43 (0, 0)) ∧ Step (ML L) w o wx o3

set_option maxRecDepth 100000 in
set_option maxHeartbeats 8000000 in
theorem settle_in (w : World) (o : Nat → Nat) (L p n : Nat) (D ed : Nat → Option Ed) (m c i : Nat) (x : Ed) (X : Mx w o L p n D ed m c) (hu : x.u < n) (hv : x.v < n) (huv : x.u ≠ x.v) (hi : i ≤ 1099511627776) (hw : -1099511627776 ≤ x.w ∧ x.w ≤ 1099511627776) (ni : D i = none) (hm : m ≤ 10000) (hc : c ≤ 10000) :
    Calls Try.prog 36 #[.pointer (some ⟨p, 0, none⟩), .agg #[.int .i64 (i : Nat), .int .i64 (x.u : Nat), .int .i64 (x.v : Nat), .int .i64 x.w]] w fun e w' => e = .returned (.tuple #[]) ∧ ∃ o' ed', Mx w' o' L p n (upd D i (some x)) ed' (m + 1) (c + 1) ∧ Step (ML L) w o w' o' := by
  obtain ⟨⟨hM, hok⟩, R, X⟩ := X
  obtain ⟨hA, hok2, hT, hn1, hn2⟩ := X.tx
  have hok' := hok.upd hi hu hv huv hw
  have nie := hM.out ni
  obtain ⟨bm, q, B, MM, T⟩ := X
  obtain ⟨u, v, wt⟩ := x
  simp only at hu hv hw huv hok' ⊢
  have s0 := newStep (fun _ => False) w o (L + 4000000000005) (.cells #[.int .i64 (i : Nat), .int .i64 (u : Nat), .int .i64 (v : Nat), .int .i64 wt] 43)
  have B0 : Blk (w.alloc (.cells #[.int .i64 (i : Nat), .int .i64 (u : Nat), .int .i64 (v : Nat), .int .i64 wt] 43)) (newLab w o (L + 4000000000005)) (L + 4000000000005) w.heap.size (.cells #[.int .i64 (i : Nat), .int .i64 (u : Nat), .int .i64 (v : Nat), .int .i64 wt] 43 (0, 0)) := ⟨heap_alloc_new w _, newLab_new (Nat.le_refl _)⟩
  have B1 := B.step s0 id
  have M1 := MM.step s0 id
  have T1 := T.step s0 (fun _ _ => id)
  obtain ⟨b0, hb0⟩ : ∃ b0, b0 = w.heap.size := ⟨_, rfl⟩
  have HB0 : Hid (b0 = w.heap.size) := hb0
  rw [← hb0] at B0
  generalize newLab w o (L + 4000000000005) = o1 at s0 B0 B1 M1 T1
  obtain ⟨w1, hw1⟩ : ∃ w1, w1 = w.alloc (.cells #[.int .i64 (i : Nat), .int .i64 (u : Nat), .int .i64 (v : Nat), .int .i64 wt] 43) := ⟨_, rfl⟩
  rw [← hw1] at s0 B0 B1 M1 T1
  obtain ⟨⟨p0, p1, p2⟩, pf⟩ := B1.cell3
  obtain ⟨⟨x0, x1, x2, x3⟩, xf⟩ := B0.cell4
  have ky : w1.cell? ⟨p, 2, none⟩ = some (.pointer (some ⟨q, 0, none⟩)) ∧ w1.cell? ⟨b0, 1, none⟩ = some (.int .i64 (u : Nat)) ∧ w1.cell? ⟨b0, 2, none⟩ = some (.int .i64 (v : Nat)) := ⟨p2, x1, x2⟩
  have nl : ∀ k, k = L ∨ k = L + 1 ∨ k = L + 4000000000005 ∨ k = L + 4000000000007 → ¬ (TL (L + 2) k ∨ k = L + 4000000000006) := fun k hk h => by
    rcases h with h | h
    · have := h.1; have := h.2; omega
    · omega
  have HK : ∀ wx ox wy oy, Step (fun _ => False) w1 o1 wx ox → Step (fun k => TL (L + 2) k ∨ k = L + 4000000000006) wx ox wy oy → (wy.cell? ⟨p, 2, none⟩ = some (.pointer (some ⟨q, 0, none⟩)) ∧ wy.cell? ⟨b0, 1, none⟩ = some (.int .i64 (u : Nat)) ∧ wy.cell? ⟨b0, 2, none⟩ = some (.int .i64 (v : Nat))) := fun wx ox wy oy s0 s => by
    obtain ⟨⟨_, _, y2⟩, _⟩ := ((B1.step s0 id).step s (nl _ (.inl rfl))).cell3
    obtain ⟨⟨z0, z1, z2, z3⟩, _⟩ := ((B0.step s0 id).step s (nl _ (.inr (.inr (.inl rfl))))).cell4
    exact ⟨y2, z1, z2⟩
  have sA : Step (fun _ => False) w1 o1 w1.drew o1 := (Step.refl _ _ _).drew
  have sB := (newStep (fun _ => False) w1 o1 (L + 4000000000007) (.cells #[.int .i64 0, .int .i64 0, .int .i64 0, .int .i64 0] 43)).drew
  have BB : Blk (w1.alloc (.cells #[.int .i64 0, .int .i64 0, .int .i64 0, .int .i64 0] 43)).drew (newLab w1 o1 (L + 4000000000007)) (L + 4000000000007) w1.heap.size (.cells #[.int .i64 0, .int .i64 0, .int .i64 0, .int .i64 0] 43 (0, 0)) := Blk.step ⟨heap_alloc_new w1 _, newLab_new (Nat.le_refl _)⟩ (Step.refl (fun _ => False) _ _).drew id
  have FIN : Hid (∀ wx ox wy oy a1 a2 a3 a4, Step (fun _ => False) w1 o1 wx ox → Step (fun k => TL (L + 2) k ∨ k = L + 4000000000006) wx ox wy oy → Tx wy oy (L + 2) q n ed R c →
      SetP w o L p n bm q b0 wy.heap.size (msF D ed) ed R m c #[.int .i64 (i : Nat), .int .i64 (u : Nat), .int .i64 (v : Nat), .int .i64 wt] #[a1, a2, a3, a4] (wy.alloc (.cells #[a1, a2, a3, a4] 43)) ∧
      ∀ b4, Blk wx ox (L + 4000000000007) b4 (.cells #[.int .i64 0, .int .i64 0, .int .i64 0, .int .i64 0] 43 (0, 0)) → SetP w o L p n bm q b0 b4 (msF D ed) ed R m c #[.int .i64 (i : Nat), .int .i64 (u : Nat), .int .i64 (v : Nat), .int .i64 wt] #[a1, a2, a3, a4] ((((wy.setCell ⟨b4, 0, none⟩ a1).setCell ⟨b4, 1, none⟩ a2).setCell ⟨b4, 2, none⟩ a3).setCell ⟨b4, 3, none⟩ a4)) := by
    intro wx ox wy oy a1 a2 a3 a4 r1 r2 T2
    have Y1 := (B1.step r1 id).step r2 (nl _ (.inl rfl))
    have Y2 := (M1.step r1 id).step r2 (nl _ (.inr (.inl rfl)))
    have Y3 := (B0.step r1 id).step r2 (nl _ (.inr (.inr (.inl rfl))))
    have Y4 : Step (ML L) w o wy oy := ((s0.mono fun _ h => h.elim).trans (r1.mono fun _ h => h.elim)).trans (r2.mono fun k hk => hk.elim (fun h => h.ml) (fun h => ⟨by omega, by omega⟩))
    refine ⟨?_, fun b4 Bx => ?_⟩
    · have n3 := newStep (fun _ => False) wy oy (L + 4000000000007) (.cells #[a1, a2, a3, a4] 43)
      exact ⟨_, Y1.step n3 id, Y2.step n3 id, T2.step n3 (fun _ _ => id), Y3.step n3 id, ⟨heap_alloc_new wy _, newLab_new (Nat.le_refl _)⟩, Y4.trans (n3.mono fun _ h => h.elim)⟩
    · have C0 := Bx.step r2 (nl _ (.inr (.inr (.inr rfl))))
      have e0 := C0.stp2 0 a1
      have C1 := C0.set 0 a1
      have e1 := C1.stp2 1 a2
      have C2 := C1.set 1 a2
      have e2 := C2.stp2 2 a3
      have C3 := C2.set 2 a3
      have e3 := C3.stp2 3 a4
      have C4 := C3.set 3 a4
      have E := ((e0.trans e1).trans e2).trans e3
      exact ⟨oy, Y1.step E (by omega), Y2.step E (by omega), T2.step E (fun k hk z => by have := hk.2; omega), Y3.step E (by omega), C4, Y4.trans (E.mono fun k hk => by subst hk; exact ⟨by omega, by omega⟩)⟩
  clear hb0 B MM T p0 p1 p2 pf x0 x1 x2 x3 xf
  by_cases hd : (R (2 * u + 1)).head? = (R (2 * v + 1)).head?
  · have HMO : Hid (∀ wx ox, Step (fun _ => False) w1 o1 wx ox → Calls Try.prog 40 #[.pointer (some ⟨q, 0, none⟩), .int .i64 u, .int .i64 v] wx fun e w' => ∃ t y o', e = .returned (.tuple #[.agg #[.int .i64 (t : Nat), .int .i64 (y.u : Nat), .int .i64 (y.v : Nat), .int .i64 y.w], .int .i64 0]) ∧ (ed t = some y ∧ Cn (fun k => k = t ∨ lgt D k t) ed u v ∧ ¬ Cn (fun k => k ≠ t) ed u v) ∧ Tx w' o' (L + 2) q n ed R c ∧ Step (fun k => TL (L + 2) k ∨ k = L + 4000000000006) wx ox w' o' ∧ (w'.cell? ⟨p, 2, none⟩ = some (.pointer (some ⟨q, 0, none⟩)) ∧ w'.cell? ⟨b0, 1, none⟩ = some (.int .i64 (u : Nat)) ∧ w'.cell? ⟨b0, 2, none⟩ = some (.int .i64 (v : Nat))) ∧ ∀ b4, Blk wx ox (L + 4000000000007) b4 (.cells #[.int .i64 0, .int .i64 0, .int .i64 0, .int .i64 0] 43 (0, 0)) → ((w'.cell? ⟨b4, 0, none⟩ = some (.int .i64 0) ∧ w'.cell? ⟨b4, 1, none⟩ = some (.int .i64 0) ∧ w'.cell? ⟨b4, 2, none⟩ = some (.int .i64 0) ∧ w'.cell? ⟨b4, 3, none⟩ = some (.int .i64 0)) ∧ ∀ j, w'.frozen? ⟨b4, j, none⟩ = false)) := fun wx ox s => by
      refine (most_in wx ox (L + 2) q n ed R c u v (L + 4000000000006) (T1.step s (fun _ _ => id)) hu hv huv hd (fun h => by have := h.2; omega) (way_edge hA hok2 hT hu hv huv hd)).mono ?_
      rintro e w' ⟨t, o', h1, ⟨h2, h2'⟩, h3, h4⟩
      obtain ⟨k, y, rfl, q1, q2, q3, q4⟩ := top_cn hM hA hok2 hT hu hv hd h2 h2'
      rw [q2, show (2 * k + 2 - 2) / 2 = k by omega] at h1
      exact ⟨k, y, o', h1, ⟨q1, q3, q4⟩, h3, h4, HK _ _ _ _ s h4, fun b4 hb => (hb.step h4 (nl _ (.inr (.inr (.inr rfl))))).cell4⟩
    clear HK T1 B1 B0 M1 s0
    go_enter Try.func36, Try.ntmps36
    go_upto_region 1 with fail
    rw [← hw1, ← HB0.out]
    clear hw1 HB0
    go_cut [4, 5] (fun v4 v5 wx => ∃ b4 t y, v4 = .pointer (some ⟨b4, 0, none⟩) ∧ v5 = .int .i64 0 ∧ (ed t = some y ∧ Cn (fun k => k = t ∨ lgt D k t) ed u v ∧ ¬ Cn (fun k => k ≠ t) ed u v) ∧ SetP w o L p n bm q b0 b4 (msF D ed) ed R m c #[.int .i64 (i : Nat), .int .i64 (u : Nat), .int .i64 (v : Nat), .int .i64 wt] #[.int .i64 (t : Nat), .int .i64 (y.u : Nat), .int .i64 (y.v : Nat), .int .i64 y.w] wx)
    case first =>
      have ne1 := World.new_ne w1 _ ky.1
      have ne2 := World.new_ne w1 _ ky.2.1
      go_wp2_with fail
      go_region_held3 (fun wx => wx.cell? ⟨p, 2, none⟩ = some (.pointer (some ⟨q, 0, none⟩)) ∧ wx.cell? ⟨b0, 1, none⟩ = some (.int .i64 (u : Nat)) ∧ wx.cell? ⟨b0, 2, none⟩ = some (.int .i64 (v : Nat))) (first | (with_reducible exact ky) | (with_reducible exact kz) | go_keep) ((first | (go_at_call 40; refine Calls.mono (HMO.out _ _ sA) ?_; rintro e w2 ⟨t, ⟨yu, yv, yw⟩, o2, rfl, ht, T2, s2, kz, hz⟩) | (go_at_call 40; refine Calls.mono (HMO.out _ _ sB) ?_; rintro e w2 ⟨t, ⟨yu, yv, yw⟩, o2, rfl, ht, T2, s2, kz, hz⟩; obtain ⟨⟨z0, z1, z2, z3⟩, zf⟩ := hz _ BB)))
      · have RR := (FIN.out _ _ _ _ (.int .i64 (t : Nat)) (.int .i64 (yu : Nat)) (.int .i64 (yv : Nat)) (.int .i64 yw) sA s2 T2).1
        clear HMO FIN T2 s2 kz hz ne1 ne2 ky BB sA sB
        go_wp2
        go_meet
        exact ⟨_, t, ⟨yu, yv, yw⟩, rfl, rfl, ht, RR⟩
      · have RR := (FIN.out _ _ _ _ (.int .i64 (t : Nat)) (.int .i64 (yu : Nat)) (.int .i64 (yv : Nat)) (.int .i64 yw) sB s2 T2).2 _ BB
        clear HMO FIN T2 s2 kz hz ne1 ne2 ky BB sA sB z0 z1 z2 z3 zf
        go_wp2
        go_meet
        exact ⟨_, t, ⟨yu, yv, yw⟩, rfl, rfl, ht, RR⟩
    case rest =>
    clear HMO FIN ky BB sA sB
    obtain ⟨b4, t, ⟨yu, yv, yw⟩, rfl, rfl, ⟨hty, hcn, hnc⟩, o3, C1, C2, C3, C4, C5, S3⟩ := hcut
    obtain ⟨⟨p0, p1, p2⟩, pf⟩ := C1.cell3
    obtain ⟨⟨x0, x1, x2, x3⟩, xf⟩ := C4.cell4
    obtain ⟨⟨y0, y1, y2, y3⟩, yf⟩ := C5.cell4
    simp only at y1 y2 y3
    have hDt := hM.sub _ _ hty
    have tne : t ≠ i := fun e => by rw [e, ni] at hDt; simp at hDt
    have hhv := heavier_in wc o3 (i : Nat) (u : Nat) (v : Nat) wt (t : Nat) (yu : Nat) (yv : Nat) yw
    by_cases hh : yw < wt ∨ (wt = yw ∧ (t : Int) < (i : Int))
    · rw [decide_eq_true hh] at hhv
      go_wp2_with fail
      refine hhv.mono ?_
      rintro e w4 ⟨rfl, s4⟩
      have sd4 : Step (fun _ => False) w4 o3 w4.drew o3 := (Step.refl _ _ _).drew
      obtain ⟨w5, hput, M5, s5⟩ := ((C2.step s4 id).step sd4 id).put i ⟨u, v, wt⟩ false ⟨by omega, by omega⟩ (by omega)
      rw [msF_new D ed ni, msF_over D ed _ nie] at M5
      simp only [Option.isSome_none, Bool.false_eq_true, if_false] at M5
      have P4 := C1.step s4 id
      have X4 := C4.step s4 id
      have RR : ∃ o' ed', Mx w5 o' L p n (upd D i (some ⟨u, v, wt⟩)) ed' (m + 1) (c + 1) ∧ Step (ML L) w o w5 o' := by
        refine ⟨o3, ed, ⟨⟨hM.over ⟨u, v, wt⟩ ni ?_, hok'⟩, R, bm, q, (P4.step sd4 id).step s5 (by omega), M5, ((C3.step s4 (fun _ _ => id)).step sd4 (fun _ _ => id)).step s5 (fun k hk z => by have := hk.1; omega) |>.mono7 (by omega)⟩, ?_⟩
        · have le := upd_le D ⟨u, v, wt⟩ ni
          have lt : lgt (upd D i (some ⟨u, v, wt⟩)) t i := ⟨_, _, le _ _ hDt, upd_same _ _ _, by simp only; omega⟩
          exact hcn.mono fun k z hz hk => ⟨hz, hk.elim (fun e => e ▸ lt) (fun l => (l.mono le).trans lt)⟩
        · exact ((S3.trans (s4.mono fun _ h => h.elim)).trans (sd4.mono fun _ h => h.elim)).trans (s5.mono fun k hk => by subst hk; exact ⟨by omega, by omega⟩)
      clear hhv p0 p1 p2 pf x0 x1 x2 x3 xf y0 y1 y2 y3 yf
      obtain ⟨⟨p0, p1, p2⟩, pf⟩ := P4.cell3
      obtain ⟨⟨x0, x1, x2, x3⟩, xf⟩ := X4.cell4
      clear P4 X4 C1 C2 C3 C4 C5 S3 s4 sd4 M5 s5 hcn hnc
      go_wp2_with fail
      go_region
      go_wp2
      exact bodyPost_ret (results_none Try.results36 _ _ _) rfl ⟨rfl, RR⟩
    · rw [decide_eq_false hh] at hhv
      go_wp2_with fail
      refine hhv.mono ?_
      rintro e w4 ⟨rfl, s4⟩
      have sd4 : Step (fun _ => False) w4 o3 w4.drew o3 := (Step.refl _ _ _).drew
      have s34 := s4.trans sd4
      have P4 := C1.step s4 id
      have Y4 := C5.step s4 id
      have hct := cut_in w4.drew o3 (L + 2) q n ed R c t _ (C3.step s34 (fun _ _ => id)) hty
      have ntl : ∀ k, k = L ∨ k = L + 1 ∨ k = L + 4000000000005 ∨ k = L + 4000000000007 → ¬ TL (L + 2) k := fun k hk h => by have := h.1; have := h.2; omega
      have HK : Hid (∀ wx ox, Step (TL (L + 2)) w4.drew o3 wx ox → (wx.cell? ⟨p, 2, none⟩ = some (.pointer (some ⟨q, 0, none⟩)) ∧ wx.cell? ⟨b4, 0, none⟩ = some (.int .i64 (t : Nat)))) := fun wx ox s => by
        obtain ⟨⟨_, _, y2⟩, _⟩ := ((P4.step sd4 id).step s (ntl _ (.inl rfl))).cell3
        obtain ⟨⟨z0, _⟩, _⟩ := ((Y4.step sd4 id).step s (ntl _ (.inr (.inr (.inr rfl))))).cell4
        exact ⟨y2, z0⟩
      clear hhv p0 p1 p2 pf x0 x1 x2 x3 xf y0 y1 y2 y3 yf
      obtain ⟨⟨p0, p1, p2⟩, pf⟩ := P4.cell3
      obtain ⟨⟨y0, y1, y2, y3⟩, yf⟩ := Y4.cell4
      have ky : w4.cell? ⟨p, 2, none⟩ = some (.pointer (some ⟨q, 0, none⟩)) ∧ w4.cell? ⟨b4, 0, none⟩ = some (.int .i64 (t : Nat)) := ⟨p2, y0⟩
      go_wp2_with fail
      go_region_held3 (fun wx => wx.cell? ⟨p, 2, none⟩ = some (.pointer (some ⟨q, 0, none⟩)) ∧ wx.cell? ⟨b4, 0, none⟩ = some (.int .i64 (t : Nat))) (first | (with_reducible exact ky) | (with_reducible exact kz) | go_keep) ((go_at_call 37; refine hct.mono ?_; rintro e w5 ⟨rfl, R', T5, s5⟩; have kz := HK.out _ _ s5))
      clear p0 p1 p2 pf y0 y1 y2 y3 yf ky kz hct HK
      have P5 := (P4.step sd4 id).step s5 (ntl _ (.inl rfl))
      have Y5 := (Y4.step sd4 id).step s5 (ntl _ (.inr (.inr (.inr rfl))))
      have X5 := (C4.step s34 id).step s5 (ntl _ (.inr (.inr (.inl rfl))))
      have M5 := (C2.step s34 id).step s5 (ntl _ (.inr (.inl rfl)))
      have sd5 : Step (fun _ => False) w5 o3 w5.drew o3 := (Step.refl _ _ _).drew
      obtain ⟨w6, hput, M6, s6⟩ := (M5.step sd5 id).put t ⟨yu, yv, yw⟩ false ⟨by omega, by have := (hok t _ hDt).1; omega⟩ (by omega)
      rw [msF_cut D ed hDt] at M6
      have hsm : (msF D ed t).isSome = true := by unfold msF; rw [hDt]; rfl
      rw [if_pos hsm] at M6
      have X6 := (X5.step sd5 id).step s6 (by omega)
      have R6 : Mr w6 o3 L p n (msF D (upd ed t none)) (upd ed t none) R' m c := ⟨bm, q, (P5.step sd5 id).step s6 (by omega), M6, (T5.step sd5 (fun _ _ => id)).step s6 (fun k hk z => by have := hk.1; omega)⟩
      have S6 : Step (ML L) w o w6 o3 := (((S3.trans (s34.mono fun _ h => h.elim)).trans (s5.mono fun k hk => hk.ml)).trans (sd5.mono fun _ h => h.elim)).trans (s6.mono fun k hk => by subst hk; exact ⟨by omega, by omega⟩)
      have hd6 : (R' (2 * u + 1)).head? ≠ (R' (2 * v + 1)).head? := fun e => by
        obtain ⟨a1, a2, a3, _⟩ := R6.tx
        exact hnc (((heads_cn a1 a2 a3 hu hv).1 e).mono fun k z hz _ => by
          by_cases ek : k = t
          · subst ek; rw [upd_same] at hz; simp at hz
          · rw [upd_other _ _ ek] at hz; exact ⟨hz, ek⟩)
      have hsp := span_in w6 o3 L p n _ _ R' m c i ⟨u, v, wt⟩ R6 hu hv hi hw hd6 (by rw [upd_other _ _ (Ne.symm tne)]; exact nie) (by omega) (by omega)
      obtain ⟨⟨p0, p1, p2⟩, pf⟩ := P5.cell3
      obtain ⟨⟨y0, y1, y2, y3⟩, yf⟩ := Y5.cell4
      obtain ⟨⟨x0, x1, x2, x3⟩, xf⟩ := X6.cell4
      clear P4 Y4 P5 Y5 X5 M5 X6 R6 C1 C2 C3 C4 C5 S3 s4 sd4 s34 s5 sd5 s6 T5 M6
      go_wp2_with fail
      go_region
      go_wp2_with fail
      refine hsp.mono ?_
      rintro e w7 ⟨rfl, o7, R7, s7⟩
      rw [msF_span, msF_new D _ ni] at R7
      simp only [Option.isSome_none, Bool.false_eq_true, if_false] at R7
      have RR : ∃ o' ed', Mx w7 o' L p n (upd D i (some ⟨u, v, wt⟩)) ed' (m + 1) (c + 1) ∧ Step (ML L) w o w7 o' := by
        refine ⟨o7, _, ⟨⟨hM.swap ⟨u, v, wt⟩ ⟨yu, yv, yw⟩ ni hty hcn hnc ?_, hok'⟩, _, R7⟩, S6.trans s7⟩
        have le := upd_le D ⟨u, v, wt⟩ ni
        exact ⟨_, _, upd_same _ _ _, le _ _ hDt, by simp only; omega⟩
      clear hsp R7 s7 S6 hput
      go_wp2
      go_end0
      exact ⟨rfl, RR⟩
  · have HMO : Hid (∀ wx ox, Step (fun _ => False) w1 o1 wx ox → Calls Try.prog 40 #[.pointer (some ⟨q, 0, none⟩), .int .i64 u, .int .i64 v] wx fun e w' => ∃ o', e = .returned (.tuple #[.agg #[.int .i64 0, .int .i64 0, .int .i64 0, .int .i64 0], .int .i64 54]) ∧ Tx w' o' (L + 2) q n ed R c ∧ Step (fun k => TL (L + 2) k ∨ k = L + 4000000000006) wx ox w' o' ∧ (w'.cell? ⟨p, 2, none⟩ = some (.pointer (some ⟨q, 0, none⟩)) ∧ w'.cell? ⟨b0, 1, none⟩ = some (.int .i64 (u : Nat)) ∧ w'.cell? ⟨b0, 2, none⟩ = some (.int .i64 (v : Nat))) ∧ ∀ b4, Blk wx ox (L + 4000000000007) b4 (.cells #[.int .i64 0, .int .i64 0, .int .i64 0, .int .i64 0] 43 (0, 0)) → ((w'.cell? ⟨b4, 0, none⟩ = some (.int .i64 0) ∧ w'.cell? ⟨b4, 1, none⟩ = some (.int .i64 0) ∧ w'.cell? ⟨b4, 2, none⟩ = some (.int .i64 0) ∧ w'.cell? ⟨b4, 3, none⟩ = some (.int .i64 0)) ∧ ∀ j, w'.frozen? ⟨b4, j, none⟩ = false)) := fun wx ox s => by
      refine (most_none wx ox (L + 2) q n ed R c u v (T1.step s (fun _ _ => id)) hu hv hd).mono ?_
      rintro e w' ⟨o', h1, h3, h4⟩
      have h5 := h4.mono (J := fun k => TL (L + 2) k ∨ k = L + 4000000000006) (fun k hk => .inl hk)
      exact ⟨o', h1, h3, h5, HK _ _ _ _ s h5, fun b4 hb => (hb.step h5 (nl _ (.inr (.inr (.inr rfl))))).cell4⟩
    clear HK T1 B1 B0 M1 s0
    go_enter Try.func36, Try.ntmps36
    go_upto_region 1 with fail
    rw [← hw1, ← HB0.out]
    clear hw1 HB0
    go_cut [4, 5] (fun v4 v5 wx => ∃ b4, v4 = .pointer (some ⟨b4, 0, none⟩) ∧ v5 = .int .i64 54 ∧ SetP w o L p n bm q b0 b4 (msF D ed) ed R m c #[.int .i64 (i : Nat), .int .i64 (u : Nat), .int .i64 (v : Nat), .int .i64 wt] #[.int .i64 0, .int .i64 0, .int .i64 0, .int .i64 0] wx)
    case first =>
      have ne1 := World.new_ne w1 _ ky.1
      have ne2 := World.new_ne w1 _ ky.2.1
      go_wp2_with fail
      go_region_held3 (fun wx => wx.cell? ⟨p, 2, none⟩ = some (.pointer (some ⟨q, 0, none⟩)) ∧ wx.cell? ⟨b0, 1, none⟩ = some (.int .i64 (u : Nat)) ∧ wx.cell? ⟨b0, 2, none⟩ = some (.int .i64 (v : Nat))) (first | (with_reducible exact ky) | (with_reducible exact kz) | go_keep) ((first | (go_at_call 40; refine Calls.mono (HMO.out _ _ sA) ?_; rintro e w2 ⟨o2, rfl, T2, s2, kz, hz⟩) | (go_at_call 40; refine Calls.mono (HMO.out _ _ sB) ?_; rintro e w2 ⟨o2, rfl, T2, s2, kz, hz⟩; obtain ⟨⟨z0, z1, z2, z3⟩, zf⟩ := hz _ BB)))
      · have RR := (FIN.out _ _ _ _ (.int .i64 0) (.int .i64 0) (.int .i64 0) (.int .i64 0) sA s2 T2).1
        clear HMO FIN T2 s2 kz hz ne1 ne2 ky BB sA sB
        go_wp2
        go_meet
        exact ⟨_, rfl, rfl, RR⟩
      · have RR := (FIN.out _ _ _ _ (.int .i64 0) (.int .i64 0) (.int .i64 0) (.int .i64 0) sB s2 T2).2 _ BB
        clear HMO FIN T2 s2 kz hz ne1 ne2 ky BB sA sB z0 z1 z2 z3 zf
        go_wp2
        go_meet
        exact ⟨_, rfl, rfl, RR⟩
    case rest =>
    clear HMO FIN ky BB sA sB
    obtain ⟨b4, rfl, rfl, o3, C1, C2, C3, C4, C5, S3⟩ := hcut
    obtain ⟨⟨x0, x1, x2, x3⟩, xf⟩ := C4.cell4
    have hsp := span_in _ o3 L p n _ _ R m c i ⟨u, v, wt⟩ ⟨bm, q, C1, C2, C3⟩ hu hv hi hw hd nie (by omega) (by omega)
    clear C1 C2 C3 C4 C5
    go_wp2_with fail
    refine hsp.mono ?_
    rintro e w7 ⟨rfl, o7, R7, s7⟩
    rw [msF_span, msF_new D _ ni] at R7
    simp only [Option.isSome_none, Bool.false_eq_true, if_false] at R7
    have RR : ∃ o' ed', Mx w7 o' L p n (upd D i (some ⟨u, v, wt⟩)) ed' (m + 1) (c + 1) ∧ Step (ML L) w o w7 o' :=
      ⟨o7, _, ⟨⟨hM.span ⟨u, v, wt⟩ ni, hok'⟩, _, R7⟩, S3.trans s7⟩
    clear hsp R7 s7 S3 x0 x1 x2 x3 xf
    go_wp2
    exact bodyPost_ret (results_none Try.results36 _ _ _) rfl ⟨rfl, RR⟩

end Go.Proofs.Ytffmlffhiimmdaa
