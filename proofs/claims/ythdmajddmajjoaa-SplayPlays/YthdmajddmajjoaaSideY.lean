/- One side of the law SplayPlays: both forests; Set, Join, Split. -/
import Derived.Test.YthdmajddmajjoaaSideX
import Derived.Deep.RegionHeld
namespace Go.Proofs.Ythdmajddmajjoaa
open Go.ChangeShapes Go.WideShapes Go.ChangeAt Go.RowKit
set_option linter.unusedVariables false
set_option linter.unusedSimpArgs false

set_option maxRecDepth 100000 in
set_option maxHeartbeats 1000000 in
theorem chg4 {w : World} {o : Nat → Nat} {D ps p q room M : Nat} {s t : Sta} {va vw : Value} (h : Sd w o D ps p q room M s va vw) (u : OpX) (r : Int) (hk : u.kd = 4) (A : Acts room s 20 (fun p => #[pv p, .int .i64 u.a, itemR u.v u.c u.f]) (.int .i64 r) t) (X : XActs room M s 21 (fun p => #[pv p, .int .i64 u.a, itemR u.v u.c u.f]) (.int .i64 r) t) :
    Calls Try.prog 7 #[pv ps, opxV u] w fun e w' => e = .returned (.bool true) ∧ ∃ o', Sd w' o' D ps p q room (M + 1) t va vw ∧ Step (SDL D) w o w' o' := by
  obtain ⟨kd, qa, qb, qv, qc, qf, qo⟩ := u
  simp only at hk A X
  subst hk
  have s1 := newStep (fun _ => False) w o (D + 3) (opxObj ⟨4, qa, qb, qv, qc, qf, qo⟩)
  have B1 : Blk (w.alloc (opxObj ⟨4, qa, qb, qv, qc, qf, qo⟩)) (newLab w o (D + 3)) (D + 3) w.heap.size (opxObj ⟨4, qa, qb, qv, qc, qf, qo⟩) := ⟨heap_alloc_new w _, newLab_new (Nat.le_refl _)⟩
  have k1 := h.blk.step s1 id
  have f1 := h.f.step s1 (fun _ _ => id)
  have x1 := h.x.step s1 (fun _ _ => id)
  have HC : Hid (∀ wx ox, Step (SDL D) (w.alloc (opxObj ⟨4, qa, qb, qv, qc, qf, qo⟩)) (newLab w o (D + 3)) wx ox → wx.cell? ⟨ps, 0, none⟩ = some (pv p) ∧ wx.cell? ⟨ps, 1, none⟩ = some (pv q) ∧ wx.cell? ⟨w.heap.size, 1, none⟩ = some (.int .i64 qa) ∧ wx.cell? ⟨w.heap.size, 3, none⟩ = some (.int .i64 qv) ∧ wx.cell? ⟨w.heap.size, 4, none⟩ = some (.bool qc) ∧ wx.cell? ⟨w.heap.size, 5, none⟩ = some (.int .i64 qf)) := fun wx ox st => by
    obtain ⟨e0, e1, -, -, -⟩ := (k1.step st (fun hh => by have := hh.low; omega)).cells4
    obtain ⟨-, g1, -, g3, g4, g5, -, -⟩ := (B1.step st (fun hh => by have := hh.low; omega)).cells7x
    exact ⟨e0, e1, g1, g3, g4, g5⟩
  have HE : Hid (∀ w3 o3, Step (SDL D) (w.alloc (opxObj ⟨4, qa, qb, qv, qc, qf, qo⟩)) (newLab w o (D + 3)) w3 o3 → FoS w3 o3 (D + 100) p room t → RxS w3 o3 (D + 10000) q room (M + 1) t → ∃ o', Sd w3 o' D ps p q room (M + 1) t va vw ∧ Step (SDL D) w o w3 o') := fun w3 o3 st ft xt => ⟨o3, ⟨k1.step st (fun hh => by have := hh.low; omega), ft, xt⟩, (s1.mono fun _ hh => hh.elim).trans st⟩
  have d1 : Step (fun _ => False) (w.alloc (opxObj ⟨4, qa, qb, qv, qc, qf, qo⟩)) (newLab w o (D + 3)) (w.alloc (opxObj ⟨4, qa, qb, qv, qc, qf, qo⟩)).drew (newLab w o (D + 3)) := (Step.refl _ _ _).drew
  have t1 : Step (SDL D) (w.alloc (opxObj ⟨4, qa, qb, qv, qc, qf, qo⟩)) (newLab w o (D + 3)) (w.alloc (opxObj ⟨4, qa, qb, qv, qc, qf, qo⟩)).drew (newLab w o (D + 3)) := d1.mono fun _ hh => hh.elim
  have f2 := f1.step d1 (fun _ _ => id)
  have x2 := x1.step d1 (fun _ _ => id)
  obtain ⟨c0, c1, c2, c3, c4, c5, c6, cf⟩ := B1.cells7x
  clear h s1 B1 k1 f1 x1 d1
  simp only [opxV, pv, opxObj, itemR] at *
  go_enter Try.func7, Try.ntmps7
  go_wp2_with fail
  go_region_held (fun wx => wx.cell? ⟨ps, 0, none⟩ = some (.pointer (some ⟨p, 0, none⟩)) ∧ wx.cell? ⟨ps, 1, none⟩ = some (.pointer (some ⟨q, 0, none⟩)) ∧ wx.cell? ⟨w.heap.size, 1, none⟩ = some (.int .i64 qa) ∧ wx.cell? ⟨w.heap.size, 3, none⟩ = some (.int .i64 qv) ∧ wx.cell? ⟨w.heap.size, 4, none⟩ = some (.bool qc) ∧ wx.cell? ⟨w.heap.size, 5, none⟩ = some (.int .i64 qf)) (first | (with_reducible exact HC.out _ _ t3) | (with_reducible exact HC.out _ _ t2) | (with_reducible exact HC.out _ _ t1)) ((first
    | (go_at_call 20; refine (A _ _ _ _ f2).mono ?_; rintro e w2 ⟨rfl, o2, F2, S2⟩; have t2 := t1.trans (S2.mono (J := SDL D) fun _ hh => .inl hh))
    | (go_at_call 21; refine (X _ _ _ _ (x2.step S2 (fun k hk hf => FX.apart hf hk))).mono ?_; rintro e w3 ⟨rfl, o3, X3, S3⟩; have t3 := t2.trans (S3.mono (J := SDL D) fun _ hh => .inr hh))))
  all_goals
    have E := HE.out _ _ t3 (F2.step S3 (fun k hk => FX.apart hk)) X3
    clear HE HC t1 t2 t3 f2 x2 F2 S2 X3 S3 A X c0 c1 c2 c3 c4 c5 c6 cf
    go_wp2
    go_ret
    exact ⟨ret_bool (by simp), E⟩
set_option maxRecDepth 100000 in
set_option maxHeartbeats 1000000 in
theorem chg5 {w : World} {o : Nat → Nat} {D ps p q room M : Nat} {s t : Sta} {va vw : Value} (h : Sd w o D ps p q room M s va vw) (u : OpX) (r : Int) (hk : u.kd = 5) (A : Acts room s 11 (fun p => #[pv p, .int .i64 u.a, .int .i64 u.b]) (.int .i64 r) t) (X : XActs room M s 22 (fun p => #[pv p, .int .i64 u.a, .int .i64 u.b]) (.int .i64 r) t) :
    Calls Try.prog 7 #[pv ps, opxV u] w fun e w' => e = .returned (.bool true) ∧ ∃ o', Sd w' o' D ps p q room (M + 1) t va vw ∧ Step (SDL D) w o w' o' := by
  obtain ⟨kd, qa, qb, qv, qc, qf, qo⟩ := u
  simp only at hk A X
  subst hk
  have s1 := newStep (fun _ => False) w o (D + 3) (opxObj ⟨5, qa, qb, qv, qc, qf, qo⟩)
  have B1 : Blk (w.alloc (opxObj ⟨5, qa, qb, qv, qc, qf, qo⟩)) (newLab w o (D + 3)) (D + 3) w.heap.size (opxObj ⟨5, qa, qb, qv, qc, qf, qo⟩) := ⟨heap_alloc_new w _, newLab_new (Nat.le_refl _)⟩
  have k1 := h.blk.step s1 id
  have f1 := h.f.step s1 (fun _ _ => id)
  have x1 := h.x.step s1 (fun _ _ => id)
  have HC : Hid (∀ wx ox, Step (SDL D) (w.alloc (opxObj ⟨5, qa, qb, qv, qc, qf, qo⟩)) (newLab w o (D + 3)) wx ox → wx.cell? ⟨ps, 0, none⟩ = some (pv p) ∧ wx.cell? ⟨ps, 1, none⟩ = some (pv q) ∧ wx.cell? ⟨w.heap.size, 1, none⟩ = some (.int .i64 qa) ∧ wx.cell? ⟨w.heap.size, 2, none⟩ = some (.int .i64 qb)) := fun wx ox st => by
    obtain ⟨e0, e1, -, -, -⟩ := (k1.step st (fun hh => by have := hh.low; omega)).cells4
    obtain ⟨-, g1, g2, -, -, -, -, -⟩ := (B1.step st (fun hh => by have := hh.low; omega)).cells7x
    exact ⟨e0, e1, g1, g2⟩
  have HE : Hid (∀ w3 o3, Step (SDL D) (w.alloc (opxObj ⟨5, qa, qb, qv, qc, qf, qo⟩)) (newLab w o (D + 3)) w3 o3 → FoS w3 o3 (D + 100) p room t → RxS w3 o3 (D + 10000) q room (M + 1) t → ∃ o', Sd w3 o' D ps p q room (M + 1) t va vw ∧ Step (SDL D) w o w3 o') := fun w3 o3 st ft xt => ⟨o3, ⟨k1.step st (fun hh => by have := hh.low; omega), ft, xt⟩, (s1.mono fun _ hh => hh.elim).trans st⟩
  have d1 : Step (fun _ => False) (w.alloc (opxObj ⟨5, qa, qb, qv, qc, qf, qo⟩)) (newLab w o (D + 3)) (w.alloc (opxObj ⟨5, qa, qb, qv, qc, qf, qo⟩)).drew (newLab w o (D + 3)) := (Step.refl _ _ _).drew
  have t1 : Step (SDL D) (w.alloc (opxObj ⟨5, qa, qb, qv, qc, qf, qo⟩)) (newLab w o (D + 3)) (w.alloc (opxObj ⟨5, qa, qb, qv, qc, qf, qo⟩)).drew (newLab w o (D + 3)) := d1.mono fun _ hh => hh.elim
  have f2 := f1.step d1 (fun _ _ => id)
  have x2 := x1.step d1 (fun _ _ => id)
  obtain ⟨c0, c1, c2, c3, c4, c5, c6, cf⟩ := B1.cells7x
  clear h s1 B1 k1 f1 x1 d1
  simp only [opxV, pv, opxObj, itemR] at *
  go_enter Try.func7, Try.ntmps7
  go_wp2_with fail
  go_region_held (fun wx => wx.cell? ⟨ps, 0, none⟩ = some (.pointer (some ⟨p, 0, none⟩)) ∧ wx.cell? ⟨ps, 1, none⟩ = some (.pointer (some ⟨q, 0, none⟩)) ∧ wx.cell? ⟨w.heap.size, 1, none⟩ = some (.int .i64 qa) ∧ wx.cell? ⟨w.heap.size, 2, none⟩ = some (.int .i64 qb)) (first | (with_reducible exact HC.out _ _ t3) | (with_reducible exact HC.out _ _ t2) | (with_reducible exact HC.out _ _ t1)) ((first
    | (go_at_call 11; refine (A _ _ _ _ f2).mono ?_; rintro e w2 ⟨rfl, o2, F2, S2⟩; have t2 := t1.trans (S2.mono (J := SDL D) fun _ hh => .inl hh))
    | (go_at_call 22; refine (X _ _ _ _ (x2.step S2 (fun k hk hf => FX.apart hf hk))).mono ?_; rintro e w3 ⟨rfl, o3, X3, S3⟩; have t3 := t2.trans (S3.mono (J := SDL D) fun _ hh => .inr hh))))
  all_goals
    have E := HE.out _ _ t3 (F2.step S3 (fun k hk => FX.apart hk)) X3
    clear HE HC t1 t2 t3 f2 x2 F2 S2 X3 S3 A X c0 c1 c2 c3 c4 c5 c6 cf
    go_wp2
    go_ret
    exact ⟨ret_bool (by simp), E⟩
set_option maxRecDepth 100000 in
set_option maxHeartbeats 1000000 in
theorem chg6 {w : World} {o : Nat → Nat} {D ps p q room M : Nat} {s t : Sta} {va vw : Value} (h : Sd w o D ps p q room M s va vw) (u : OpX) (r : Int) (hk : u.kd = 6) (A : Acts room s 23 (fun p => #[pv p, .int .i64 u.a]) (.int .i64 r) t) (X : XActs room M s 24 (fun p => #[pv p, .int .i64 u.a]) (.int .i64 r) t) :
    Calls Try.prog 7 #[pv ps, opxV u] w fun e w' => e = .returned (.bool true) ∧ ∃ o', Sd w' o' D ps p q room (M + 1) t va vw ∧ Step (SDL D) w o w' o' := by
  obtain ⟨kd, qa, qb, qv, qc, qf, qo⟩ := u
  simp only at hk A X
  subst hk
  have s1 := newStep (fun _ => False) w o (D + 3) (opxObj ⟨6, qa, qb, qv, qc, qf, qo⟩)
  have B1 : Blk (w.alloc (opxObj ⟨6, qa, qb, qv, qc, qf, qo⟩)) (newLab w o (D + 3)) (D + 3) w.heap.size (opxObj ⟨6, qa, qb, qv, qc, qf, qo⟩) := ⟨heap_alloc_new w _, newLab_new (Nat.le_refl _)⟩
  have k1 := h.blk.step s1 id
  have f1 := h.f.step s1 (fun _ _ => id)
  have x1 := h.x.step s1 (fun _ _ => id)
  have HC : Hid (∀ wx ox, Step (SDL D) (w.alloc (opxObj ⟨6, qa, qb, qv, qc, qf, qo⟩)) (newLab w o (D + 3)) wx ox → wx.cell? ⟨ps, 0, none⟩ = some (pv p) ∧ wx.cell? ⟨ps, 1, none⟩ = some (pv q) ∧ wx.cell? ⟨w.heap.size, 1, none⟩ = some (.int .i64 qa)) := fun wx ox st => by
    obtain ⟨e0, e1, -, -, -⟩ := (k1.step st (fun hh => by have := hh.low; omega)).cells4
    obtain ⟨-, g1, -, -, -, -, -, -⟩ := (B1.step st (fun hh => by have := hh.low; omega)).cells7x
    exact ⟨e0, e1, g1⟩
  have HE : Hid (∀ w3 o3, Step (SDL D) (w.alloc (opxObj ⟨6, qa, qb, qv, qc, qf, qo⟩)) (newLab w o (D + 3)) w3 o3 → FoS w3 o3 (D + 100) p room t → RxS w3 o3 (D + 10000) q room (M + 1) t → ∃ o', Sd w3 o' D ps p q room (M + 1) t va vw ∧ Step (SDL D) w o w3 o') := fun w3 o3 st ft xt => ⟨o3, ⟨k1.step st (fun hh => by have := hh.low; omega), ft, xt⟩, (s1.mono fun _ hh => hh.elim).trans st⟩
  have d1 : Step (fun _ => False) (w.alloc (opxObj ⟨6, qa, qb, qv, qc, qf, qo⟩)) (newLab w o (D + 3)) (w.alloc (opxObj ⟨6, qa, qb, qv, qc, qf, qo⟩)).drew (newLab w o (D + 3)) := (Step.refl _ _ _).drew
  have t1 : Step (SDL D) (w.alloc (opxObj ⟨6, qa, qb, qv, qc, qf, qo⟩)) (newLab w o (D + 3)) (w.alloc (opxObj ⟨6, qa, qb, qv, qc, qf, qo⟩)).drew (newLab w o (D + 3)) := d1.mono fun _ hh => hh.elim
  have f2 := f1.step d1 (fun _ _ => id)
  have x2 := x1.step d1 (fun _ _ => id)
  obtain ⟨c0, c1, c2, c3, c4, c5, c6, cf⟩ := B1.cells7x
  clear h s1 B1 k1 f1 x1 d1
  simp only [opxV, pv, opxObj, itemR] at *
  go_enter Try.func7, Try.ntmps7
  go_wp2_with fail
  go_region_held (fun wx => wx.cell? ⟨ps, 0, none⟩ = some (.pointer (some ⟨p, 0, none⟩)) ∧ wx.cell? ⟨ps, 1, none⟩ = some (.pointer (some ⟨q, 0, none⟩)) ∧ wx.cell? ⟨w.heap.size, 1, none⟩ = some (.int .i64 qa)) (first | (with_reducible exact HC.out _ _ t3) | (with_reducible exact HC.out _ _ t2) | (with_reducible exact HC.out _ _ t1)) ((first
    | (go_at_call 23; refine (A _ _ _ _ f2).mono ?_; rintro e w2 ⟨rfl, o2, F2, S2⟩; have t2 := t1.trans (S2.mono (J := SDL D) fun _ hh => .inl hh))
    | (go_at_call 24; refine (X _ _ _ _ (x2.step S2 (fun k hk hf => FX.apart hf hk))).mono ?_; rintro e w3 ⟨rfl, o3, X3, S3⟩; have t3 := t2.trans (S3.mono (J := SDL D) fun _ hh => .inr hh))))
  all_goals
    have E := HE.out _ _ t3 (F2.step S3 (fun k hk => FX.apart hk)) X3
    clear HE HC t1 t2 t3 f2 x2 F2 S2 X3 S3 A X c0 c1 c2 c3 c4 c5 c6 cf
    go_wp2
    go_ret
    exact ⟨ret_bool (by simp), E⟩
end Go.Proofs.Ythdmajddmajjoaa
