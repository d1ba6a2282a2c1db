/- Tours: is there such a vertex; a new node; a new step; a step that goes. -/
import Derived.Test.YtnpfagpgploolaaNodeT
import Derived.Deep.RegionLaw
namespace Go.Proofs.Ytnpfagpgploolaa
open Go.ChangeShapes Go.WideShapes Go.ChangeAt Go.RowKit Go.Maps
set_option linter.unusedVariables false

theorem has_any (w : World) (o : Nat → Nat) (L p n pf bs cap bm bg : Nat) (x : Int) (h1 : Ts w o L p n pf bs cap bm bg) :
    Calls Try.prog 49 #[.pointer (some ⟨p, 0, none⟩), .int .i64 x] w fun e w' => e = .returned (.bool (decide (0 ≤ x ∧ x < n))) ∧ w' = w := by
  obtain ⟨c0, c1, c2, c3⟩ := h1.cells
  by_cases hx : 0 ≤ x
  · by_cases hn : x < n
    · have e : decide (0 ≤ x ∧ x < n) = true := decide_eq_true ⟨hx, hn⟩
      rw [e]
      go_enter Try.func49, Try.ntmps49
      go_wp2
      go_ret
      exact ⟨rfl, rfl⟩
    · have e : decide (0 ≤ x ∧ x < n) = false := decide_eq_false (fun h => hn h.2)
      rw [e]
      go_enter Try.func49, Try.ntmps49
      go_wp2
      go_ret
      exact ⟨rfl, rfl⟩
  · have e : decide (0 ≤ x ∧ x < n) = false := decide_eq_false (fun h => hx h.1)
    rw [e]
    go_enter Try.func49, Try.ntmps49
    go_wp2
    go_ret
    exact ⟨rfl, rfl⟩

theorem Blk.cells2 {w : World} {o : Nat → Nat} {i b : Nat} {a0 a1 : Value} {t : TypeId} (h : Blk w o i b (.cells #[a0, a1] t (0, 0))) :
    w.cell? ⟨b, 0, none⟩ = some a0 ∧ w.cell? ⟨b, 1, none⟩ = some a1 := by
  refine ⟨?_, ?_⟩ <;> simp [cell_of_row w b _ _ t (0, 0) h.1]

set_option maxRecDepth 100000 in
theorem node_any (n N : Nat) (free : List Nat) (it : Nat → It) (S : Nat → List Nat) (u v : Nat) (c : Bool) (wf : WF (n + 2 * (n - 1)) N free) (hroom : N - free.length < n + 2 * (n - 1)) (hn : n ≤ 64) :
    ∃ h N' free', (¬ Live N free h) ∧ 1 ≤ h ∧ h ≤ 200 ∧ N ≤ N' ∧ (∀ j, Live N' free' j ↔ Live N free j ∨ j = h) ∧ N' - free'.length = N - free.length + 1 ∧ WF (n + 2 * (n - 1)) N' free' ∧ (free = [] → h = N + 1 ∧ N' = N + 1 ∧ free' = []) ∧
      ∀ w o L p g f ms sts, Tm w o L p n N free it S g f ms sts → Calls Try.prog 28 #[.pointer (some ⟨p, 0, none⟩), .agg #[.int .i64 u, .int .i64 v], .bool c] w fun e w' => e = .returned (.int .i64 h) ∧ ∃ o', Tm w' o' L p n N' free' (upd it h ⟨0, c, 0⟩) (setS S [h]) (fun j => if j = h then (u, v) else g j) f ms sts ∧ Step (fun k => TL L k ∧ k ≠ L + 1105 ∧ k ≠ L + 1100 ∧ k ≠ L + 1101) w o w' o' := by
  obtain ⟨h, N', free', p1, p2, p3, p4, p5, p6, p7, p8, hmk⟩ := make_any (n + 2 * (n - 1)) N free it S ⟨0, c, 0⟩ ⟨by show (-1099511627776 : Int) ≤ 0; omega, by show (0 : Int) ≤ 1099511627776; omega, by show 0 ≤ 255; omega⟩ wf hroom
  have hN := wf.le
  refine ⟨h, N', free', p1, p2, by omega, p4, p5, p6, p7, p8, fun w o L p g f ms sts T => ?_⟩
  obtain ⟨pf, bs, cap, bm, bg, h1, h2, h3, h4, h5⟩ := T
  have n1 := newStep (fun _ => False) w o (L + 1104) (.cells #[.int .i64 u, .int .i64 v] 75)
  have B1 : Blk (w.alloc (.cells #[.int .i64 u, .int .i64 v] 75)) (newLab w o (L + 1104)) (L + 1104) w.heap.size (.cells #[.int .i64 u, .int .i64 v] 75 (0, 0)) := ⟨heap_alloc_new w _, newLab_new (Nat.le_refl _)⟩
  obtain ⟨c0, c1, c2, c3⟩ := (h1.step n1 id).cells
  have hc := hmk _ _ L pf (h2.quiet n1)
  unfold itemV at hc
  rw [upd_eq] at hc
  go_enter Try.func28, Try.ntmps28
  go_wp2_with fail
  refine hc.mono ?_
  rintro e w2 ⟨rfl, o2, F2, S2⟩
  obtain ⟨k1, k3, k4, k5⟩ := Tm.fo' (h1.step n1 id) (h3.step n1 id) (h4.step n1 id) (h5.step n1 id) S2
  have B2 := B1.step S2 (fun h => by have := h.2; omega)
  clear hc c0 c1 c2 c3
  have q : Step (fun _ => False) w2 o2 w2.drew o2 := (Step.refl _ _ _).drew
  obtain ⟨w3, hr, G3, S3⟩ := GoM.put (k5.step q id) h u v (by omega) p1 (by have := wf.room; omega) (Live N' free') p5
  rw [← p6] at G3
  obtain ⟨c0, c1, c2, c3⟩ := k1.cells
  obtain ⟨b0, b1⟩ := B2.cells2
  have S4 := (q.mono (J := fun k => k = L + 1103) fun _ h => h.elim).trans S3
  have R : Tm w3 o2 L p n N' free' (upd it h ⟨0, c, 0⟩) (setS S [h]) (fun j => if j = h then (u, v) else g j) f ms sts :=
    ⟨pf, bs, cap, bm, bg, k1.step S4 (by omega), F2.step S4 (fun k hk => by have := hk.2; omega), k3.step S4 (by omega), k4.step S4 (by omega), G3⟩
  have RS : Step (fun k => TL L k ∧ k ≠ L + 1105 ∧ k ≠ L + 1100 ∧ k ≠ L + 1101) w o w3 o2 := ((n1.mono fun _ h => h.elim).trans (S2.mono fun k hk => ⟨hk.tl, by have := hk.2; omega, by have := hk.2; omega, by have := hk.2; omega⟩)).trans (S4.mono fun k hk => ⟨⟨by omega, by omega⟩, by omega, by omega, by omega⟩)
  clear h1 h2 h3 h4 h5 k1 k3 k4 k5 F2 B1 B2 G3 S4 S3 hmk
  go_wp2_with fail
  go_region
  all_goals
    go_wp2
    go_ret
    exact ⟨rfl, o2, R, RS⟩

set_option maxRecDepth 100000 in
theorem take_any (n N : Nat) (free : List Nat) (it : Nat → It) (S : Nat → List Nat) (u v : Nat) (wf : WF (n + 2 * (n - 1)) N free) (hroom : N - free.length < n + 2 * (n - 1)) (hn : n ≤ 64) (hu : u < 64) (hv : v < 64) :
    ∃ h N' free', (¬ Live N free h) ∧ 1 ≤ h ∧ h ≤ 200 ∧ N ≤ N' ∧ (∀ j, Live N' free' j ↔ Live N free j ∨ j = h) ∧ N' - free'.length = N - free.length + 1 ∧ WF (n + 2 * (n - 1)) N' free' ∧ (free = [] → h = N + 1 ∧ N' = N + 1 ∧ free' = []) ∧
      ∀ w o L p g f ms sts, f u v = 0 → ms ≤ 1000 → Tm w o L p n N free it S g f ms sts → Calls Try.prog 43 #[.pointer (some ⟨p, 0, none⟩), .agg #[.int .i64 u, .int .i64 v]] w fun e w' => e = .returned (.int .i64 h) ∧ ∃ o', Tm w' o' L p n N' free' (upd it h ⟨0, false, 0⟩) (setS S [h]) (fun j => if j = h then (u, v) else g j) (upd2 f u v h) (ms + 1) sts ∧ Step (TL L) w o w' o' := by
  obtain ⟨h, N', free', p1, p2, p3, p4, p5, p6, p7, p8, hmk⟩ := node_any n N free it S u v false wf hroom hn
  refine ⟨h, N', free', p1, p2, p3, p4, p5, p6, p7, p8, fun w o L p g f ms sts hf0 hms T => ?_⟩
  have n1 := newStep (fun _ => False) w o (L + 1105) (.cells #[.int .i64 u, .int .i64 v] 75)
  have B1 : Blk (w.alloc (.cells #[.int .i64 u, .int .i64 v] 75)) (newLab w o (L + 1105)) (L + 1105) w.heap.size (.cells #[.int .i64 u, .int .i64 v] 75 (0, 0)) := ⟨heap_alloc_new w _, newLab_new (Nat.le_refl _)⟩
  have hc := hmk _ _ L p g f ms sts (T.quiet n1)
  go_enter Try.func43, Try.ntmps43
  go_wp2_with fail
  refine hc.mono ?_
  rintro e w2 ⟨rfl, o2, ⟨pf, bs, cap, bm, bg, k1, k2, k3, k4, k5⟩, S2⟩
  have B2 := B1.step S2 (fun h => h.2.1 rfl)
  clear hc
  have q : Step (fun _ => False) w2 o2 w2.drew o2 := (Step.refl _ _ _).drew
  obtain ⟨w3, hr, M3, S3⟩ := StM.put (k4.step q id) u v h hu hv hf0 (by omega) (by omega) (by omega)
  obtain ⟨c0, c1, c2, c3⟩ := k1.cells
  obtain ⟨b0, b1⟩ := B2.cells2
  have S4 := (q.mono (J := fun k => k = L + 1102) fun _ h => h.elim).trans S3
  have R : Tm w3 o2 L p n N' free' (upd it h ⟨0, false, 0⟩) (setS S [h]) (fun j => if j = h then (u, v) else g j) (upd2 f u v h) (ms + 1) sts :=
    ⟨pf, bs, cap, bm, bg, k1.step S4 (by omega), k2.step S4 (fun k hk => by have := hk.2; omega), k3.step S4 (by omega), M3, k5.step S4 (by omega)⟩
  have RS : Step (TL L) w o w3 o2 := (n1.tq.trans (S2.mono fun _ hk => hk.1)).trans (S4.t1 (by omega) (by omega))
  clear k1 k2 k3 k4 k5 B1 B2 M3 S4 S3 hmk T
  go_wp2_with fail
  go_region
  all_goals
    go_wp2
    go_ret
    exact ⟨rfl, o2, R, RS⟩

theorem Live.drop {N : Nat} {free : List Nat} {a : Nat} (j : Nat) : Live N (free ++ [a]) j ↔ Live N free j ∧ j ≠ a := by
  unfold Live
  simp only [List.mem_append, List.mem_singleton, not_or]
  exact ⟨fun h => ⟨⟨h.1, h.2.1, h.2.2.1⟩, h.2.2.2⟩, fun h => ⟨h.1.1, h.1.2.1, h.1.2.2, h.2⟩⟩

set_option maxRecDepth 100000 in
theorem drop_any (w : World) (o : Nat → Nat) (L p n N : Nat) (free : List Nat) (it : Nat → It) (S : Nat → List Nat) (g : Nat → Nat × Nat) (f : Nat → Nat → Nat) (ms : Nat) (sts : List Nat) (a u v : Nat) (T : Tm w o L p n N free it S g f ms sts) (hl : Live N free a) (hS : S a = [a]) (hg : g a = (u, v)) (hu : u < 64) (hv : v < 64) (hf : f u v ≠ 0) :
    Calls Try.prog 48 #[.pointer (some ⟨p, 0, none⟩), .int .i64 a] w fun e w' => e = .returned (.tuple #[]) ∧ ∃ o', Tm w' o' L p n N (free ++ [a]) it S g (upd2 f u v 0) (ms - 1) sts ∧ Step (TL L) w o w' o' := by
  obtain ⟨pf, bs, cap, bm, bg, h1, h2, h3, h4, h5⟩ := T
  have hN := h2.le
  have hal : a ≤ 2000 := by have := hl.2.1; omega
  have q : Step (fun _ => False) w o w.drew o := (Step.refl _ _ _).drew
  have hr1 := (h5.step q id).look a hal hl
  rw [hg] at hr1
  obtain ⟨w1, hr2, hm0, M1, S1⟩ := (h4.step q id).del u v hu hv hf 0
  obtain ⟨c0, c1, c2, c3⟩ := h1.cells
  go_enter Try.func48, Try.ntmps48
  go_wp2_with fail
  go_region
  have S1' := (q.mono (J := fun k => k = L + 1102) fun _ h => h.elim).trans S1
  have k1 := h1.step S1' (by omega)
  have k2 := h2.step S1' (fun k hk => by have := hk.2; omega)
  have k3 := h3.step S1' (by omega)
  have k5 := h5.step S1' (by omega)
  obtain ⟨w2, hr3, hm5, G2, S2⟩ := k5.del a hal hl (Live N (free ++ [a])) (fun j => Live.drop j) 0
  have hlen : N - free.length - 1 = N - (free ++ [a]).length := by simp; omega
  rw [hlen] at G2
  have j1 := k1.step S2 (by omega)
  have j2 := k2.step S2 (fun k hk => by have := hk.2; omega)
  have j3 := k3.step S2 (by omega)
  have j4 := M1.step S2 (by omega)
  have hfr := freeInF w2 o L pf _ N free it S a j2 hl hS
  obtain ⟨d0, d1, d2, d3⟩ := k1.cells
  obtain ⟨e0, e1, e2, e3⟩ := j1.cells
  clear hr1 hr2 c0 c1 c2 c3 h1 h2 h3 h4 h5 k1 k2 k3 k5 M1
  go_wp2_with fail
  refine hfr.mono ?_
  rintro e w3 ⟨rfl, o3, F3, S3⟩
  have a9 : ∀ k, FL L k → k < L + 1100 := fun k hk => by have := hk.2; omega
  have R : Tm w3 o3 L p n N (free ++ [a]) it S g (upd2 f u v 0) (ms - 1) sts :=
    ⟨pf, bs, cap, bm, bg, j1.step S3 (fun h => by have := a9 _ h; omega), F3, j3.step S3 (fun h => by have := a9 _ h; omega), j4.step S3 (fun h => by have := a9 _ h; omega), G2.step S3 (fun h => by have := a9 _ h; omega)⟩
  have RS : Step (TL L) w o w3 o3 := ((S1'.t1 (by omega) (by omega)).trans (S2.t1 (by omega) (by omega))).trans S3.tl
  clear j1 j2 j3 j4 G2 F3 hfr S1' S2 S3
  go_wp2
  go_end0
  exact ⟨rfl, o3, R, RS⟩

end Go.Proofs.Ytnpfagpgploolaa
