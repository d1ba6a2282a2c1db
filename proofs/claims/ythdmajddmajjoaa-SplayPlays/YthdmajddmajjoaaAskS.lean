/- One side of the law SplayPlays: Sum, whose answer goes into a box. -/
import Derived.Test.YthdmajddmajjoaaAskG
import Derived.Deep.RegionHeld3
import Derived.Deep.CutBlock
import Derived.Deep.DeepCutAuto
namespace Go.Proofs.Ythdmajddmajjoaa
open Go.ChangeShapes Go.WideShapes Go.ChangeAt Go.RowKit
set_option linter.unusedVariables false
set_option linter.unusedSimpArgs false

set_option maxRecDepth 100000 in
set_option maxHeartbeats 1000000 in
theorem ask10 {w : World} {o : Nat → Nat} {D ps p q room M : Nat} {s : Sta} {va vw : Value} (h : Sd w o D ps p q room M s va vw) (u : OpX) (y : Ag) (r : Int) (hk : u.kd = 10) (A : Acts room s 12 (fun p => #[pv p, .int .i64 u.a]) (.tuple #[aggV y, .int .i64 r]) s) (X : XActs room M s 32 (fun p => #[pv p, .int .i64 u.a]) (.tuple #[aggV y, .int .i64 r]) s) :
    Calls Try.prog 8 #[pv ps, opxV u] w fun e w' => e = .returned (.bool true) ∧ ∃ o', Sd w' o' D ps p q room (M + 1) s va vw ∧ Step (SEL D) w o w' o' := by
  obtain ⟨kd, qa, qb, qv, qc, qf, qo⟩ := u
  simp only at hk A X
  subst hk
  have s1 := newStep (fun _ => False) w o (D + 3) (opxObj ⟨10, qa, qb, qv, qc, qf, qo⟩)
  have B1 : Blk (w.alloc (opxObj ⟨10, qa, qb, qv, qc, qf, qo⟩)) (newLab w o (D + 3)) (D + 3) w.heap.size (opxObj ⟨10, qa, qb, qv, qc, qf, qo⟩) := ⟨heap_alloc_new w _, newLab_new (Nat.le_refl _)⟩
  have k1 := h.blk.step s1 id
  have f1 := h.f.step s1 (fun _ _ => id)
  have x1 := h.x.step s1 (fun _ _ => id)
  obtain ⟨o1, ho1⟩ : ∃ o1, o1 = newLab w o (D + 3) := ⟨_, rfl⟩
  obtain ⟨b1, hb1⟩ : ∃ b1, b1 = w.heap.size := ⟨_, rfl⟩
  rw [← ho1] at s1 B1 k1 f1 x1
  rw [← hb1] at B1
  obtain ⟨w1, hw1⟩ : ∃ w1, w1 = w.alloc (opxObj ⟨10, qa, qb, qv, qc, qf, qo⟩) := ⟨_, rfl⟩
  rw [← hw1] at s1 B1 k1 f1 x1
  have HC : Hid (∀ wx ox, Step (SEL D) w1 o1 wx ox → wx.cell? ⟨ps, 0, none⟩ = some (pv p) ∧ wx.cell? ⟨ps, 1, none⟩ = some (pv q) ∧ wx.cell? ⟨b1, 1, none⟩ = some (.int .i64 qa)) := fun wx ox st => by
    obtain ⟨e0, e1, -, -, -⟩ := (k1.step st (SEL.not (by omega))).cells4
    obtain ⟨-, g1, -, -, -, -, -, -⟩ := (B1.step st (SEL.not (by omega))).cells7x
    exact ⟨e0, e1, g1⟩
  have HE : Hid (∀ w3 o3, Step (SEL D) w1 o1 w3 o3 → FoS w3 o3 (D + 100) p room s → RxS w3 o3 (D + 10000) q room (M + 1) s → ∃ o', Sd w3 o' D ps p q room (M + 1) s va vw ∧ Step (SEL D) w o w3 o') := fun w3 o3 st ft xt => ⟨o3, ⟨k1.step st (SEL.not (by omega)), ft, xt⟩, (s1.mono fun _ hh => hh.elim).trans st⟩
  obtain ⟨c0, c1, c2, c3, c4, c5, c6, cf⟩ := B1.cells7x
  have HB1 : Hid (b1 = w.heap.size) := hb1
  have HW1 : Hid (w1 = w.alloc (opxObj ⟨10, qa, qb, qv, qc, qf, qo⟩)) := hw1
  rw [hb1, hw1] at c0
  clear h s1 B1 k1 hb1 hw1 ho1 c1 c2 c3 c4 c5 c6 cf
  simp only [opxV, pv, opxObj, aggV] at *
  go_enter Try.func8, Try.ntmps8
  go_upto_region 19 with fail
  rw [← HW1.out, ← HB1.out]
  clear HW1 HB1 c0
  go_cut [21, 22] (fun v5 v6 wv => ∃ b5 ox wx, wx = wv ∧ v5 = .pointer (some ⟨b5, 0, none⟩) ∧ v6 = .int .i64 r ∧ Blk wx ox (D + 4) b5 (.cells #[.int .i64 (y.count : Nat), .int .i64 y.sum, .int .i64 y.least, .int .i64 y.most, .int .i64 (y.flags : Nat)] 45 (0, 0)) ∧ FoS wx ox (D + 100) p room s ∧ RxS wx ox (D + 10000) q room M s ∧ Step (SEL D) w1 o1 wx ox)
  case first =>
    have d1 : Step (fun _ => False) w1 o1 w1.drew o1 := (Step.refl _ _ _).drew
    have t1 : Step (SEL D) w1 o1 w1.drew o1 := d1.mono fun _ hh => hh.elim
    have f2 := f1.step d1 (fun _ _ => id)
    have x2 := x1.step d1 (fun _ _ => id)
    have n1 := newStep (fun _ => False) w1 o1 (D + 4) (.cells #[.int .i64 0, .int .i64 0, .int .i64 0, .int .i64 0, .int .i64 0] 45)
    have n1d := n1.drew
    have tn : Step (SEL D) w1 o1 (w1.alloc (.cells #[.int .i64 0, .int .i64 0, .int .i64 0, .int .i64 0, .int .i64 0] 45)) (newLab w1 o1 (D + 4)) := n1.mono fun _ hh => hh.elim
    have tnd := tn.drew
    have f3 := f1.step n1d (fun _ _ => id)
    have x3 := x1.step n1d (fun _ _ => id)
    have BN : Blk (w1.alloc (.cells #[.int .i64 0, .int .i64 0, .int .i64 0, .int .i64 0, .int .i64 0] 45)).drew (newLab w1 o1 (D + 4)) (D + 4) w1.heap.size (.cells #[.int .i64 0, .int .i64 0, .int .i64 0, .int .i64 0, .int .i64 0] 45 (0, 0)) := ⟨heap_alloc_new w1 _, newLab_new (Nat.le_refl _)⟩
    have HC2 : Hid (∀ wx ox, Step (SEL D) w1 o1 wx ox → wx.cell? ⟨ps, 0, none⟩ = some (.pointer (some ⟨p, 0, none⟩)) ∧ wx.cell? ⟨b1, 1, none⟩ = some (.int .i64 qa)) := fun wx ox st => by
      obtain ⟨a1, a2, a3⟩ := HC.out wx ox st
      exact ⟨a1, a3⟩
    clear HC HE
    go_wp2_with fail
    go_region_held3 (fun wx => wx.cell? ⟨ps, 0, none⟩ = some (.pointer (some ⟨p, 0, none⟩)) ∧ wx.cell? ⟨b1, 1, none⟩ = some (.int .i64 qa)) (first | (with_reducible exact HC2.out _ _ t1) | (with_reducible exact HC2.out _ _ tnd) | (with_reducible exact HC2.out _ _ t2) | (with_reducible exact HC2.out _ _ t2a) | (with_reducible exact HC2.out _ _ t2b) | (with_reducible exact HC2.out _ _ t2c) | (with_reducible exact HC2.out _ _ tn) | (with_reducible exact HC2.out _ _ (Step.refl _ _ _))) (first
      | (go_at_call 12; refine (A _ _ _ _ f2).mono ?_; rintro e w2 ⟨rfl, o2, F2, S2⟩; have t2 := t1.trans (S2.mono (J := SEL D) fun _ hh => .inl (.inl hh)); have t2a := t2.trans ((newStep (fun _ => False) w2 o2 (D + 4) (.cells #[.int .i64 0, .int .i64 0, .int .i64 0, .int .i64 0, .int .i64 0] 45)).mono (J := SEL D) fun _ hh => hh.elim); have t2b := t2.trans ((newStep (fun _ => False) w2 o2 (D + 4) (.cells #[.int .i64 (y.count : Nat), .int .i64 y.sum, .int .i64 y.least, .int .i64 y.most, .int .i64 (y.flags : Nat)] 45)).mono (J := SEL D) fun _ hh => hh.elim))
      | (go_at_call 12; refine (A _ _ _ _ f3).mono ?_; rintro e w2 ⟨rfl, o2, F2, S2⟩; have t2 := tnd.trans (S2.mono (J := SEL D) fun _ hh => .inl (.inl hh)); have B2 := BN.step S2 (fun hh => by have := hh.1; omega); obtain ⟨z0, z1, z2, z3, z4, zf⟩ := B2.cells5; have t2c := (((((t2.setCell ⟨w1.heap.size, 0, none⟩ (.int .i64 (y.count : Nat)) (.inr (.inl B2.2))).setCell ⟨w1.heap.size, 1, none⟩ (.int .i64 y.sum) (.inr (.inl B2.2))).setCell ⟨w1.heap.size, 2, none⟩ (.int .i64 y.least) (.inr (.inl B2.2))).setCell ⟨w1.heap.size, 3, none⟩ (.int .i64 y.most) (.inr (.inl B2.2))).setCell ⟨w1.heap.size, 4, none⟩ (.int .i64 (y.flags : Nat)) (.inr (.inl B2.2)))))
    all_goals clear HC2 A
    · go_wp2
      go_meet
      have n2 := newStep (fun _ => False) w2 o2 (D + 4) (.cells #[.int .i64 (y.count : Nat), .int .i64 y.sum, .int .i64 y.least, .int .i64 y.most, .int .i64 (y.flags : Nat)] 45)
      exact ⟨_, _, _, rfl, rfl, rfl, ⟨heap_alloc_new w2 _, newLab_new (Nat.le_refl _)⟩, F2.step n2 (fun _ _ => id), (x2.step S2 (fun k hk hf => FX.apart hf hk)).step n2 (fun _ _ => id), t2b⟩
    · go_wp2
      go_meet
      have s4 := ((((((Step.refl (fun k => k = D + 4) w2 o2).setCell ⟨w1.heap.size, 0, none⟩ (.int .i64 (y.count : Nat)) B2.2).setCell ⟨w1.heap.size, 1, none⟩ (.int .i64 y.sum) B2.2).setCell ⟨w1.heap.size, 2, none⟩ (.int .i64 y.least) B2.2).setCell ⟨w1.heap.size, 3, none⟩ (.int .i64 y.most) B2.2).setCell ⟨w1.heap.size, 4, none⟩ (.int .i64 (y.flags : Nat)) B2.2)
      exact ⟨_, _, _, rfl, rfl, rfl, ((((B2.set 0 _).set 1 _).set 2 _).set 3 _).set 4 _, F2.step s4 (fun k hk e => by have := hk.1; omega), (x3.step S2 (fun k hk hf => FX.apart hf hk)).step s4 (fun k hk e => by have := hk.1; omega), t2c⟩
  case rest =>
  obtain ⟨b5, oy, wy, hwy, rfl, rfl, B5, F5, X5, t5⟩ := hcut
  subst hwy
  clear A x1 f1
  have HC5 : Hid (∀ wx ox, Step (SEL D) w1 o1 wx ox → wx.cell? ⟨ps, 1, none⟩ = some (.pointer (some ⟨q, 0, none⟩)) ∧ wx.cell? ⟨b1, 1, none⟩ = some (.int .i64 qa)) := fun wx ox st => by
    obtain ⟨a1, a2, a3⟩ := HC.out wx ox st
    exact ⟨a2, a3⟩
  clear HC
  go_upto_region 20 with fail
  go_cut [23, 24] (fun v7 v8 wv => ∃ b7 ox wx, wx = wv ∧ v7 = .pointer (some ⟨b7, 0, none⟩) ∧ v8 = .int .i64 r ∧ Blk wx ox (D + 5) b7 (.cells #[.int .i64 (y.count : Nat), .int .i64 y.sum, .int .i64 y.least, .int .i64 y.most, .int .i64 (y.flags : Nat)] 45 (0, 0)) ∧ Blk wx ox (D + 4) b5 (.cells #[.int .i64 (y.count : Nat), .int .i64 y.sum, .int .i64 y.least, .int .i64 y.most, .int .i64 (y.flags : Nat)] 45 (0, 0)) ∧ FoS wx ox (D + 100) p room s ∧ RxS wx ox (D + 10000) q room (M + 1) s ∧ Step (SEL D) w1 o1 wx ox)
  case first =>
    have d1 : Step (fun _ => False) wy oy wy.drew oy := (Step.refl _ _ _).drew
    have t1 : Step (SEL D) w1 o1 wy.drew oy := t5.drew
    have f2 := F5.step d1 (fun _ _ => id)
    have x2 := X5.step d1 (fun _ _ => id)
    have b2 := B5.step d1 id
    have n1 := newStep (fun _ => False) wy oy (D + 5) (.cells #[.int .i64 0, .int .i64 0, .int .i64 0, .int .i64 0, .int .i64 0] 45)
    have n1d := n1.drew
    have tn : Step (SEL D) w1 o1 (wy.alloc (.cells #[.int .i64 0, .int .i64 0, .int .i64 0, .int .i64 0, .int .i64 0] 45)) (newLab wy oy (D + 5)) := t5.trans (n1.mono fun _ hh => hh.elim)
    have tnd := tn.drew
    have f3 := F5.step n1d (fun _ _ => id)
    have x3 := X5.step n1d (fun _ _ => id)
    have b3 := B5.step n1d id
    have BN : Blk (wy.alloc (.cells #[.int .i64 0, .int .i64 0, .int .i64 0, .int .i64 0, .int .i64 0] 45)).drew (newLab wy oy (D + 5)) (D + 5) wy.heap.size (.cells #[.int .i64 0, .int .i64 0, .int .i64 0, .int .i64 0, .int .i64 0] 45 (0, 0)) := ⟨heap_alloc_new wy _, newLab_new (Nat.le_refl _)⟩
    clear HE B5 F5 X5
    go_wp2_with fail
    go_region_held3 (fun wx => wx.cell? ⟨ps, 1, none⟩ = some (.pointer (some ⟨q, 0, none⟩)) ∧ wx.cell? ⟨b1, 1, none⟩ = some (.int .i64 qa)) (first | (with_reducible exact HC5.out _ _ t1) | (with_reducible exact HC5.out _ _ tnd) | (with_reducible exact HC5.out _ _ t2) | (with_reducible exact HC5.out _ _ t2a) | (with_reducible exact HC5.out _ _ t2b) | (with_reducible exact HC5.out _ _ t2c) | (with_reducible exact HC5.out _ _ tn) | (with_reducible exact HC5.out _ _ t5)) (first
      | (go_at_call 32; refine (X _ _ _ _ x2).mono ?_; rintro e w2 ⟨rfl, o2, X2, S2⟩; have t2 := t1.trans (S2.mono (J := SEL D) fun _ hh => .inl (.inr hh)); have t2a := t2.trans ((newStep (fun _ => False) w2 o2 (D + 5) (.cells #[.int .i64 0, .int .i64 0, .int .i64 0, .int .i64 0, .int .i64 0] 45)).mono (J := SEL D) fun _ hh => hh.elim); have t2b := t2.trans ((newStep (fun _ => False) w2 o2 (D + 5) (.cells #[.int .i64 (y.count : Nat), .int .i64 y.sum, .int .i64 y.least, .int .i64 y.most, .int .i64 (y.flags : Nat)] 45)).mono (J := SEL D) fun _ hh => hh.elim))
      | (go_at_call 32; refine (X _ _ _ _ x3).mono ?_; rintro e w2 ⟨rfl, o2, X2, S2⟩; have t2 := tnd.trans (S2.mono (J := SEL D) fun _ hh => .inl (.inr hh)); have B2 := BN.step S2 (fun hh => by have := hh.1; omega); obtain ⟨z0, z1, z2, z3, z4, zf⟩ := B2.cells5; have t2c := (((((t2.setCell ⟨wy.heap.size, 0, none⟩ (.int .i64 (y.count : Nat)) (.inr (.inr B2.2))).setCell ⟨wy.heap.size, 1, none⟩ (.int .i64 y.sum) (.inr (.inr B2.2))).setCell ⟨wy.heap.size, 2, none⟩ (.int .i64 y.least) (.inr (.inr B2.2))).setCell ⟨wy.heap.size, 3, none⟩ (.int .i64 y.most) (.inr (.inr B2.2))).setCell ⟨wy.heap.size, 4, none⟩ (.int .i64 (y.flags : Nat)) (.inr (.inr B2.2)))))
    all_goals clear HC5 X
    · go_wp2
      go_meet
      have n2 := newStep (fun _ => False) w2 o2 (D + 5) (.cells #[.int .i64 (y.count : Nat), .int .i64 y.sum, .int .i64 y.least, .int .i64 y.most, .int .i64 (y.flags : Nat)] 45)
      exact ⟨_, _, _, rfl, rfl, rfl, ⟨heap_alloc_new w2 _, newLab_new (Nat.le_refl _)⟩, (b2.step S2 (fun hh => by have := hh.1; omega)).step n2 id, (f2.step S2 (fun k hk hf => FX.apart hk hf)).step n2 (fun _ _ => id), X2.step n2 (fun _ _ => id), t2b⟩
    · go_wp2
      go_meet
      have s4 := ((((((Step.refl (fun k => k = D + 5) w2 o2).setCell ⟨wy.heap.size, 0, none⟩ (.int .i64 (y.count : Nat)) B2.2).setCell ⟨wy.heap.size, 1, none⟩ (.int .i64 y.sum) B2.2).setCell ⟨wy.heap.size, 2, none⟩ (.int .i64 y.least) B2.2).setCell ⟨wy.heap.size, 3, none⟩ (.int .i64 y.most) B2.2).setCell ⟨wy.heap.size, 4, none⟩ (.int .i64 (y.flags : Nat)) B2.2)
      exact ⟨_, _, _, rfl, rfl, rfl, ((((B2.set 0 _).set 1 _).set 2 _).set 3 _).set 4 _, (b3.step S2 (fun hh => by have := hh.1; omega)).step s4 (by omega), (f3.step S2 (fun k hk hf => FX.apart hk hf)).step s4 (fun k hk e => by have := hk.1; omega), X2.step s4 (fun k hk e => by have := hk.1; omega), t2c⟩
  case rest =>
  obtain ⟨b7, oz, wz, hwz, rfl, rfl, B7, B8, F7, X7, t7⟩ := hcut
  subst hwz
  have E := HE.out _ _ t7 F7 X7
  obtain ⟨u0, u1, u2, u3, u4, uf⟩ := B7.cells5
  obtain ⟨v0, v1, v2, v3, v4, vf⟩ := B8.cells5
  clear HE HC5 t7 F7 X7 B7 B8 X t5 X5 F5 B5
  go_wp2
  go_ret
  exact ⟨ret_bool (by simp), E⟩
end Go.Proofs.Ythdmajddmajjoaa
