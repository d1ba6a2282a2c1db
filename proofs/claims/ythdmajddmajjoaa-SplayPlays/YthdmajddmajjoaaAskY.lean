/- One side of the law SplayPlays: both forests; calls that only ask: Same, Rank, At, Flagged. -/
import Derived.Test.YthdmajddmajjoaaChgX
import Derived.Deep.RegionHeld
namespace Go.Proofs.Ythdmajddmajjoaa
open Go.ChangeShapes Go.WideShapes Go.ChangeAt Go.RowKit
set_option linter.unusedVariables false
set_option linter.unusedSimpArgs false

set_option maxRecDepth 100000 in
set_option maxHeartbeats 1000000 in
theorem ask7 {w : World} {o : Nat → Nat} {D ps p q room M : Nat} {s : Sta} {va vw : Value} (h : Sd w o D ps p q room M s va vw) (u : OpX) (m : Bool) (r : Int) (hk : u.kd = 7) (A : Acts room s 27 (fun p => #[pv p, .int .i64 u.a, .int .i64 u.b]) (.tuple #[.bool m, .int .i64 r]) s) (X : XActs room M s 28 (fun p => #[pv p, .int .i64 u.a, .int .i64 u.b]) (.tuple #[.bool m, .int .i64 r]) s) :
    Calls Try.prog 8 #[pv ps, opxV u] w fun e w' => e = .returned (.bool true) ∧ ∃ o', Sd w' o' D ps p q room (M + 1) s va vw ∧ Step (SDL D) w o w' o' := by
  obtain ⟨kd, qa, qb, qv, qc, qf, qo⟩ := u
  simp only at hk A X
  subst hk
  have s1 := newStep (fun _ => False) w o (D + 3) (opxObj ⟨7, qa, qb, qv, qc, qf, qo⟩)
  have B1 : Blk (w.alloc (opxObj ⟨7, qa, qb, qv, qc, qf, qo⟩)) (newLab w o (D + 3)) (D + 3) w.heap.size (opxObj ⟨7, qa, qb, qv, qc, qf, qo⟩) := ⟨heap_alloc_new w _, newLab_new (Nat.le_refl _)⟩
  have k1 := h.blk.step s1 id
  have f1 := h.f.step s1 (fun _ _ => id)
  have x1 := h.x.step s1 (fun _ _ => id)
  have HC : Hid (∀ wx ox, Step (SDL D) (w.alloc (opxObj ⟨7, qa, qb, qv, qc, qf, qo⟩)) (newLab w o (D + 3)) wx ox → wx.cell? ⟨ps, 0, none⟩ = some (pv p) ∧ wx.cell? ⟨ps, 1, none⟩ = some (pv q) ∧ wx.cell? ⟨w.heap.size, 1, none⟩ = some (.int .i64 qa) ∧ wx.cell? ⟨w.heap.size, 2, none⟩ = some (.int .i64 qb)) := fun wx ox st => by
    obtain ⟨e0, e1, -, -, -⟩ := (k1.step st (fun hh => by have := hh.low; omega)).cells4
    obtain ⟨-, g1, g2, -, -, -, -, -⟩ := (B1.step st (fun hh => by have := hh.low; omega)).cells7x
    exact ⟨e0, e1, g1, g2⟩
  have HE : Hid (∀ w3 o3, Step (SDL D) (w.alloc (opxObj ⟨7, qa, qb, qv, qc, qf, qo⟩)) (newLab w o (D + 3)) w3 o3 → FoS w3 o3 (D + 100) p room s → RxS w3 o3 (D + 10000) q room (M + 1) s → ∃ o', Sd w3 o' D ps p q room (M + 1) s va vw ∧ Step (SDL D) w o w3 o') := fun w3 o3 st ft xt => ⟨o3, ⟨k1.step st (fun hh => by have := hh.low; omega), ft, xt⟩, (s1.mono fun _ hh => hh.elim).trans st⟩
  have d1 : Step (fun _ => False) (w.alloc (opxObj ⟨7, qa, qb, qv, qc, qf, qo⟩)) (newLab w o (D + 3)) (w.alloc (opxObj ⟨7, qa, qb, qv, qc, qf, qo⟩)).drew (newLab w o (D + 3)) := (Step.refl _ _ _).drew
  have t1 : Step (SDL D) (w.alloc (opxObj ⟨7, qa, qb, qv, qc, qf, qo⟩)) (newLab w o (D + 3)) (w.alloc (opxObj ⟨7, qa, qb, qv, qc, qf, qo⟩)).drew (newLab w o (D + 3)) := d1.mono fun _ hh => hh.elim
  have f2 := f1.step d1 (fun _ _ => id)
  have x2 := x1.step d1 (fun _ _ => id)
  obtain ⟨c0, c1, c2, c3, c4, c5, c6, cf⟩ := B1.cells7x
  clear h s1 B1 k1 f1 x1 d1
  simp only [opxV, pv, opxObj, itemR] at *
  go_enter Try.func8, Try.ntmps8
  go_wp2_with fail
  go_region_held (fun wx => wx.cell? ⟨ps, 0, none⟩ = some (.pointer (some ⟨p, 0, none⟩)) ∧ wx.cell? ⟨ps, 1, none⟩ = some (.pointer (some ⟨q, 0, none⟩)) ∧ wx.cell? ⟨w.heap.size, 1, none⟩ = some (.int .i64 qa) ∧ wx.cell? ⟨w.heap.size, 2, none⟩ = some (.int .i64 qb)) (first | (with_reducible exact HC.out _ _ t2) | (with_reducible exact HC.out _ _ t1)) ((go_at_call 27; refine (A _ _ _ _ f2).mono ?_; rintro e w2 ⟨rfl, o2, F2, S2⟩; have t2 := t1.trans (S2.mono (J := SDL D) fun _ hh => .inl hh)))
  all_goals
    have d2 : Step (fun _ => False) w2 o2 w2.drew o2 := (Step.refl _ _ _).drew
    have t2d := t2.trans (d2.mono (J := SDL D) fun _ hh => hh.elim)
    have F2d := F2.step d2 (fun _ _ => id)
    have x3 := (x2.step S2 (fun k hk hf => FX.apart hf hk)).step d2 (fun _ _ => id)
    have cc := HC.out _ _ t2
    clear f2 x2 F2 S2 t2 d2 A
    go_wp2_with fail
    go_region_held (fun wx => wx.cell? ⟨ps, 0, none⟩ = some (.pointer (some ⟨p, 0, none⟩)) ∧ wx.cell? ⟨ps, 1, none⟩ = some (.pointer (some ⟨q, 0, none⟩)) ∧ wx.cell? ⟨w.heap.size, 1, none⟩ = some (.int .i64 qa) ∧ wx.cell? ⟨w.heap.size, 2, none⟩ = some (.int .i64 qb)) (first | (with_reducible exact HC.out _ _ t3) | (with_reducible exact HC.out _ _ t2d)) ((go_at_call 28; refine (X _ _ _ _ x3).mono ?_; rintro e w3 ⟨rfl, o3, X3, S3⟩; have t3 := t2d.trans (S3.mono (J := SDL D) fun _ hh => .inr hh)))
    all_goals
      have E := HE.out _ _ t3 (F2d.step S3 (fun k hk => FX.apart hk)) X3
      clear HE HC t1 t2d t3 F2d x3 X3 S3 X cc
      go_wp2
      go_ret
      exact ⟨ret_bool (by simp), E⟩
set_option maxRecDepth 100000 in
set_option maxHeartbeats 1000000 in
theorem ask8 {w : World} {o : Nat → Nat} {D ps p q room M : Nat} {s : Sta} {va vw : Value} (h : Sd w o D ps p q room M s va vw) (u : OpX) (m : Int) (r : Int) (hk : u.kd = 8) (A : Acts room s 13 (fun p => #[pv p, .int .i64 u.a]) (.tuple #[.int .i64 m, .int .i64 r]) s) (X : XActs room M s 29 (fun p => #[pv p, .int .i64 u.a]) (.tuple #[.int .i64 m, .int .i64 r]) s) :
    Calls Try.prog 8 #[pv ps, opxV u] w fun e w' => e = .returned (.bool true) ∧ ∃ o', Sd w' o' D ps p q room (M + 1) s va vw ∧ Step (SDL D) w o w' o' := by
  obtain ⟨kd, qa, qb, qv, qc, qf, qo⟩ := u
  simp only at hk A X
  subst hk
  have s1 := newStep (fun _ => False) w o (D + 3) (opxObj ⟨8, qa, qb, qv, qc, qf, qo⟩)
  have B1 : Blk (w.alloc (opxObj ⟨8, qa, qb, qv, qc, qf, qo⟩)) (newLab w o (D + 3)) (D + 3) w.heap.size (opxObj ⟨8, qa, qb, qv, qc, qf, qo⟩) := ⟨heap_alloc_new w _, newLab_new (Nat.le_refl _)⟩
  have k1 := h.blk.step s1 id
  have f1 := h.f.step s1 (fun _ _ => id)
  have x1 := h.x.step s1 (fun _ _ => id)
  have HC : Hid (∀ wx ox, Step (SDL D) (w.alloc (opxObj ⟨8, qa, qb, qv, qc, qf, qo⟩)) (newLab w o (D + 3)) wx ox → wx.cell? ⟨ps, 0, none⟩ = some (pv p) ∧ wx.cell? ⟨ps, 1, none⟩ = some (pv q) ∧ wx.cell? ⟨w.heap.size, 1, none⟩ = some (.int .i64 qa)) := fun wx ox st => by
    obtain ⟨e0, e1, -, -, -⟩ := (k1.step st (fun hh => by have := hh.low; omega)).cells4
    obtain ⟨-, g1, -, -, -, -, -, -⟩ := (B1.step st (fun hh => by have := hh.low; omega)).cells7x
    exact ⟨e0, e1, g1⟩
  have HE : Hid (∀ w3 o3, Step (SDL D) (w.alloc (opxObj ⟨8, qa, qb, qv, qc, qf, qo⟩)) (newLab w o (D + 3)) w3 o3 → FoS w3 o3 (D + 100) p room s → RxS w3 o3 (D + 10000) q room (M + 1) s → ∃ o', Sd w3 o' D ps p q room (M + 1) s va vw ∧ Step (SDL D) w o w3 o') := fun w3 o3 st ft xt => ⟨o3, ⟨k1.step st (fun hh => by have := hh.low; omega), ft, xt⟩, (s1.mono fun _ hh => hh.elim).trans st⟩
  have d1 : Step (fun _ => False) (w.alloc (opxObj ⟨8, qa, qb, qv, qc, qf, qo⟩)) (newLab w o (D + 3)) (w.alloc (opxObj ⟨8, qa, qb, qv, qc, qf, qo⟩)).drew (newLab w o (D + 3)) := (Step.refl _ _ _).drew
  have t1 : Step (SDL D) (w.alloc (opxObj ⟨8, qa, qb, qv, qc, qf, qo⟩)) (newLab w o (D + 3)) (w.alloc (opxObj ⟨8, qa, qb, qv, qc, qf, qo⟩)).drew (newLab w o (D + 3)) := d1.mono fun _ hh => hh.elim
  have f2 := f1.step d1 (fun _ _ => id)
  have x2 := x1.step d1 (fun _ _ => id)
  obtain ⟨c0, c1, c2, c3, c4, c5, c6, cf⟩ := B1.cells7x
  clear h s1 B1 k1 f1 x1 d1
  simp only [opxV, pv, opxObj, itemR] at *
  go_enter Try.func8, Try.ntmps8
  go_wp2_with fail
  go_region_held (fun wx => wx.cell? ⟨ps, 0, none⟩ = some (.pointer (some ⟨p, 0, none⟩)) ∧ wx.cell? ⟨ps, 1, none⟩ = some (.pointer (some ⟨q, 0, none⟩)) ∧ wx.cell? ⟨w.heap.size, 1, none⟩ = some (.int .i64 qa)) (first | (with_reducible exact HC.out _ _ t2) | (with_reducible exact HC.out _ _ t1)) ((go_at_call 13; refine (A _ _ _ _ f2).mono ?_; rintro e w2 ⟨rfl, o2, F2, S2⟩; have t2 := t1.trans (S2.mono (J := SDL D) fun _ hh => .inl hh)))
  all_goals
    have d2 : Step (fun _ => False) w2 o2 w2.drew o2 := (Step.refl _ _ _).drew
    have t2d := t2.trans (d2.mono (J := SDL D) fun _ hh => hh.elim)
    have F2d := F2.step d2 (fun _ _ => id)
    have x3 := (x2.step S2 (fun k hk hf => FX.apart hf hk)).step d2 (fun _ _ => id)
    have cc := HC.out _ _ t2
    clear f2 x2 F2 S2 t2 d2 A
    go_wp2_with fail
    go_region_held (fun wx => wx.cell? ⟨ps, 0, none⟩ = some (.pointer (some ⟨p, 0, none⟩)) ∧ wx.cell? ⟨ps, 1, none⟩ = some (.pointer (some ⟨q, 0, none⟩)) ∧ wx.cell? ⟨w.heap.size, 1, none⟩ = some (.int .i64 qa)) (first | (with_reducible exact HC.out _ _ t3) | (with_reducible exact HC.out _ _ t2d)) ((go_at_call 29; refine (X _ _ _ _ x3).mono ?_; rintro e w3 ⟨rfl, o3, X3, S3⟩; have t3 := t2d.trans (S3.mono (J := SDL D) fun _ hh => .inr hh)))
    all_goals
      have E := HE.out _ _ t3 (F2d.step S3 (fun k hk => FX.apart hk)) X3
      clear HE HC t1 t2d t3 F2d x3 X3 S3 X cc
      go_wp2
      go_ret
      exact ⟨ret_bool (by simp), E⟩
set_option maxRecDepth 100000 in
set_option maxHeartbeats 1000000 in
theorem ask9 {w : World} {o : Nat → Nat} {D ps p q room M : Nat} {s : Sta} {va vw : Value} (h : Sd w o D ps p q room M s va vw) (u : OpX) (m : Int) (r : Int) (hk : u.kd = 9) (A : Acts room s 30 (fun p => #[pv p, .int .i64 u.a, .int .i64 u.b]) (.tuple #[.int .i64 m, .int .i64 r]) s) (X : XActs room M s 31 (fun p => #[pv p, .int .i64 u.a, .int .i64 u.b]) (.tuple #[.int .i64 m, .int .i64 r]) s) :
    Calls Try.prog 8 #[pv ps, opxV u] w fun e w' => e = .returned (.bool true) ∧ ∃ o', Sd w' o' D ps p q room (M + 1) s va vw ∧ Step (SDL D) w o w' o' := by
  obtain ⟨kd, qa, qb, qv, qc, qf, qo⟩ := u
  simp only at hk A X
  subst hk
  have s1 := newStep (fun _ => False) w o (D + 3) (opxObj ⟨9, qa, qb, qv, qc, qf, qo⟩)
  have B1 : Blk (w.alloc (opxObj ⟨9, qa, qb, qv, qc, qf, qo⟩)) (newLab w o (D + 3)) (D + 3) w.heap.size (opxObj ⟨9, qa, qb, qv, qc, qf, qo⟩) := ⟨heap_alloc_new w _, newLab_new (Nat.le_refl _)⟩
  have k1 := h.blk.step s1 id
  have f1 := h.f.step s1 (fun _ _ => id)
  have x1 := h.x.step s1 (fun _ _ => id)
  have HC : Hid (∀ wx ox, Step (SDL D) (w.alloc (opxObj ⟨9, qa, qb, qv, qc, qf, qo⟩)) (newLab w o (D + 3)) wx ox → wx.cell? ⟨ps, 0, none⟩ = some (pv p) ∧ wx.cell? ⟨ps, 1, none⟩ = some (pv q) ∧ wx.cell? ⟨w.heap.size, 1, none⟩ = some (.int .i64 qa) ∧ wx.cell? ⟨w.heap.size, 2, none⟩ = some (.int .i64 qb)) := fun wx ox st => by
    obtain ⟨e0, e1, -, -, -⟩ := (k1.step st (fun hh => by have := hh.low; omega)).cells4
    obtain ⟨-, g1, g2, -, -, -, -, -⟩ := (B1.step st (fun hh => by have := hh.low; omega)).cells7x
    exact ⟨e0, e1, g1, g2⟩
  have HE : Hid (∀ w3 o3, Step (SDL D) (w.alloc (opxObj ⟨9, qa, qb, qv, qc, qf, qo⟩)) (newLab w o (D + 3)) w3 o3 → FoS w3 o3 (D + 100) p room s → RxS w3 o3 (D + 10000) q room (M + 1) s → ∃ o', Sd w3 o' D ps p q room (M + 1) s va vw ∧ Step (SDL D) w o w3 o') := fun w3 o3 st ft xt => ⟨o3, ⟨k1.step st (fun hh => by have := hh.low; omega), ft, xt⟩, (s1.mono fun _ hh => hh.elim).trans st⟩
  have d1 : Step (fun _ => False) (w.alloc (opxObj ⟨9, qa, qb, qv, qc, qf, qo⟩)) (newLab w o (D + 3)) (w.alloc (opxObj ⟨9, qa, qb, qv, qc, qf, qo⟩)).drew (newLab w o (D + 3)) := (Step.refl _ _ _).drew
  have t1 : Step (SDL D) (w.alloc (opxObj ⟨9, qa, qb, qv, qc, qf, qo⟩)) (newLab w o (D + 3)) (w.alloc (opxObj ⟨9, qa, qb, qv, qc, qf, qo⟩)).drew (newLab w o (D + 3)) := d1.mono fun _ hh => hh.elim
  have f2 := f1.step d1 (fun _ _ => id)
  have x2 := x1.step d1 (fun _ _ => id)
  obtain ⟨c0, c1, c2, c3, c4, c5, c6, cf⟩ := B1.cells7x
  clear h s1 B1 k1 f1 x1 d1
  simp only [opxV, pv, opxObj, itemR] at *
  go_enter Try.func8, Try.ntmps8
  go_wp2_with fail
  go_region_held (fun wx => wx.cell? ⟨ps, 0, none⟩ = some (.pointer (some ⟨p, 0, none⟩)) ∧ wx.cell? ⟨ps, 1, none⟩ = some (.pointer (some ⟨q, 0, none⟩)) ∧ wx.cell? ⟨w.heap.size, 1, none⟩ = some (.int .i64 qa) ∧ wx.cell? ⟨w.heap.size, 2, none⟩ = some (.int .i64 qb)) (first | (with_reducible exact HC.out _ _ t2) | (with_reducible exact HC.out _ _ t1)) ((go_at_call 30; refine (A _ _ _ _ f2).mono ?_; rintro e w2 ⟨rfl, o2, F2, S2⟩; have t2 := t1.trans (S2.mono (J := SDL D) fun _ hh => .inl hh)))
  all_goals
    have d2 : Step (fun _ => False) w2 o2 w2.drew o2 := (Step.refl _ _ _).drew
    have t2d := t2.trans (d2.mono (J := SDL D) fun _ hh => hh.elim)
    have F2d := F2.step d2 (fun _ _ => id)
    have x3 := (x2.step S2 (fun k hk hf => FX.apart hf hk)).step d2 (fun _ _ => id)
    have cc := HC.out _ _ t2
    clear f2 x2 F2 S2 t2 d2 A
    go_wp2_with fail
    go_region_held (fun wx => wx.cell? ⟨ps, 0, none⟩ = some (.pointer (some ⟨p, 0, none⟩)) ∧ wx.cell? ⟨ps, 1, none⟩ = some (.pointer (some ⟨q, 0, none⟩)) ∧ wx.cell? ⟨w.heap.size, 1, none⟩ = some (.int .i64 qa) ∧ wx.cell? ⟨w.heap.size, 2, none⟩ = some (.int .i64 qb)) (first | (with_reducible exact HC.out _ _ t3) | (with_reducible exact HC.out _ _ t2d)) ((go_at_call 31; refine (X _ _ _ _ x3).mono ?_; rintro e w3 ⟨rfl, o3, X3, S3⟩; have t3 := t2d.trans (S3.mono (J := SDL D) fun _ hh => .inr hh)))
    all_goals
      have E := HE.out _ _ t3 (F2d.step S3 (fun k hk => FX.apart hk)) X3
      clear HE HC t1 t2d t3 F2d x3 X3 S3 X cc
      go_wp2
      go_ret
      exact ⟨ret_bool (by simp), E⟩
set_option maxRecDepth 100000 in
set_option maxHeartbeats 1000000 in
theorem ask11 {w : World} {o : Nat → Nat} {D ps p q room M : Nat} {s : Sta} {va vw : Value} (h : Sd w o D ps p q room M s va vw) (u : OpX) (m : Int) (r : Int) (hk : u.kd = 11) (A : Acts room s 14 (fun p => #[pv p, .int .i64 u.a, .int .i64 u.b]) (.tuple #[.int .i64 m, .int .i64 r]) s) (X : XActs room M s 33 (fun p => #[pv p, .int .i64 u.a, .int .i64 u.b]) (.tuple #[.int .i64 m, .int .i64 r]) s) :
    Calls Try.prog 8 #[pv ps, opxV u] w fun e w' => e = .returned (.bool true) ∧ ∃ o', Sd w' o' D ps p q room (M + 1) s va vw ∧ Step (SDL D) w o w' o' := by
  obtain ⟨kd, qa, qb, qv, qc, qf, qo⟩ := u
  simp only at hk A X
  subst hk
  have s1 := newStep (fun _ => False) w o (D + 3) (opxObj ⟨11, qa, qb, qv, qc, qf, qo⟩)
  have B1 : Blk (w.alloc (opxObj ⟨11, qa, qb, qv, qc, qf, qo⟩)) (newLab w o (D + 3)) (D + 3) w.heap.size (opxObj ⟨11, qa, qb, qv, qc, qf, qo⟩) := ⟨heap_alloc_new w _, newLab_new (Nat.le_refl _)⟩
  have k1 := h.blk.step s1 id
  have f1 := h.f.step s1 (fun _ _ => id)
  have x1 := h.x.step s1 (fun _ _ => id)
  have HC : Hid (∀ wx ox, Step (SDL D) (w.alloc (opxObj ⟨11, qa, qb, qv, qc, qf, qo⟩)) (newLab w o (D + 3)) wx ox → wx.cell? ⟨ps, 0, none⟩ = some (pv p) ∧ wx.cell? ⟨ps, 1, none⟩ = some (pv q) ∧ wx.cell? ⟨w.heap.size, 1, none⟩ = some (.int .i64 qa) ∧ wx.cell? ⟨w.heap.size, 2, none⟩ = some (.int .i64 qb)) := fun wx ox st => by
    obtain ⟨e0, e1, -, -, -⟩ := (k1.step st (fun hh => by have := hh.low; omega)).cells4
    obtain ⟨-, g1, g2, -, -, -, -, -⟩ := (B1.step st (fun hh => by have := hh.low; omega)).cells7x
    exact ⟨e0, e1, g1, g2⟩
  have HE : Hid (∀ w3 o3, Step (SDL D) (w.alloc (opxObj ⟨11, qa, qb, qv, qc, qf, qo⟩)) (newLab w o (D + 3)) w3 o3 → FoS w3 o3 (D + 100) p room s → RxS w3 o3 (D + 10000) q room (M + 1) s → ∃ o', Sd w3 o' D ps p q room (M + 1) s va vw ∧ Step (SDL D) w o w3 o') := fun w3 o3 st ft xt => ⟨o3, ⟨k1.step st (fun hh => by have := hh.low; omega), ft, xt⟩, (s1.mono fun _ hh => hh.elim).trans st⟩
  have d1 : Step (fun _ => False) (w.alloc (opxObj ⟨11, qa, qb, qv, qc, qf, qo⟩)) (newLab w o (D + 3)) (w.alloc (opxObj ⟨11, qa, qb, qv, qc, qf, qo⟩)).drew (newLab w o (D + 3)) := (Step.refl _ _ _).drew
  have t1 : Step (SDL D) (w.alloc (opxObj ⟨11, qa, qb, qv, qc, qf, qo⟩)) (newLab w o (D + 3)) (w.alloc (opxObj ⟨11, qa, qb, qv, qc, qf, qo⟩)).drew (newLab w o (D + 3)) := d1.mono fun _ hh => hh.elim
  have f2 := f1.step d1 (fun _ _ => id)
  have x2 := x1.step d1 (fun _ _ => id)
  obtain ⟨c0, c1, c2, c3, c4, c5, c6, cf⟩ := B1.cells7x
  clear h s1 B1 k1 f1 x1 d1
  simp only [opxV, pv, opxObj, itemR] at *
  go_enter Try.func8, Try.ntmps8
  go_wp2_with fail
  go_region_held (fun wx => wx.cell? ⟨ps, 0, none⟩ = some (.pointer (some ⟨p, 0, none⟩)) ∧ wx.cell? ⟨ps, 1, none⟩ = some (.pointer (some ⟨q, 0, none⟩)) ∧ wx.cell? ⟨w.heap.size, 1, none⟩ = some (.int .i64 qa) ∧ wx.cell? ⟨w.heap.size, 2, none⟩ = some (.int .i64 qb)) (first | (with_reducible exact HC.out _ _ t2) | (with_reducible exact HC.out _ _ t1)) ((go_at_call 14; refine (A _ _ _ _ f2).mono ?_; rintro e w2 ⟨rfl, o2, F2, S2⟩; have t2 := t1.trans (S2.mono (J := SDL D) fun _ hh => .inl hh)))
  all_goals
    have d2 : Step (fun _ => False) w2 o2 w2.drew o2 := (Step.refl _ _ _).drew
    have t2d := t2.trans (d2.mono (J := SDL D) fun _ hh => hh.elim)
    have F2d := F2.step d2 (fun _ _ => id)
    have x3 := (x2.step S2 (fun k hk hf => FX.apart hf hk)).step d2 (fun _ _ => id)
    have cc := HC.out _ _ t2
    clear f2 x2 F2 S2 t2 d2 A
    go_wp2_with fail
    go_region_held (fun wx => wx.cell? ⟨ps, 0, none⟩ = some (.pointer (some ⟨p, 0, none⟩)) ∧ wx.cell? ⟨ps, 1, none⟩ = some (.pointer (some ⟨q, 0, none⟩)) ∧ wx.cell? ⟨w.heap.size, 1, none⟩ = some (.int .i64 qa) ∧ wx.cell? ⟨w.heap.size, 2, none⟩ = some (.int .i64 qb)) (first | (with_reducible exact HC.out _ _ t3) | (with_reducible exact HC.out _ _ t2d)) ((go_at_call 33; refine (X _ _ _ _ x3).mono ?_; rintro e w3 ⟨rfl, o3, X3, S3⟩; have t3 := t2d.trans (S3.mono (J := SDL D) fun _ hh => .inr hh)))
    all_goals
      have E := HE.out _ _ t3 (F2d.step S3 (fun k hk => FX.apart hk)) X3
      clear HE HC t1 t2d t3 F2d x3 X3 S3 X cc
      go_wp2
      go_ret
      exact ⟨ret_bool (by simp), E⟩
end Go.Proofs.Ythdmajddmajjoaa
