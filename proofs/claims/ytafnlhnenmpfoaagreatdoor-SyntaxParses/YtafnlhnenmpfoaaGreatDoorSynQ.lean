/- All tokens are read. -/
import Derived.Test.YtafnlhnenmpfoaaGreatDoorSynO
import Derived.Defers
import Derived.Recover
import Derived.Laws.Pointers
namespace Go.Proofs.YtafnlhnenmpfoaaGreatDoor
open Go.ChangeShapes Go.WideShapes Go.ChangeAt Go.RowKit
set_option linter.unusedVariables false
set_option linter.unusedSimpArgs false

/-- The three results' boxes. -/
structure Bx3 (w : World) (B : Nat) (v0 v1 v2 v3 v4 e a : Value) : Prop where
  t : w.heap[B]? = some (.cells #[v0, v1, v2, v3, v4] 25 (0, 0))
  e : w.heap[B + 1]? = some (.cells #[e] 26 (0, 0))
  a : w.heap[B + 2]? = some (.cells #[a] 3 (0, 0))
theorem Blk.cells1 {w : World} {b : Nat} {a0 : Value} {t : TypeId} (h : w.heap[b]? = some (.cells #[a0] t (0, 0))) : w.cell? ⟨b, 0, none⟩ = some a0 ∧ ∀ j, w.frozen? ⟨b, j, none⟩ = false := by
  refine ⟨?_, fun j => frozen_of_row w b j _ t h⟩
  simp [cell_of_row w b _ _ t (0, 0) h]
theorem catch_idle (B : Nat) (w : World) :
    CallsD Tryz.prog 41 #[.pointer (some ⟨B, 0, none⟩), .pointer (some ⟨B + 1, 0, none⟩), .pointer (some ⟨B + 2, 0, none⟩)] .returning w fun e u' w' => e = .returned (.tuple #[]) ∧ u' = .returning ∧ w' = w := by
  refine callsD_of_wpS Tryz.func41 rfl fun c₀ cs hu => ?_
  apply wpS_seq
  apply wpS_region
  simp [wpOpsS, go_sem, recoverD, hu, Tryz.ntmps41, Exit.thenS]
  apply wpS_seq
  apply wpS_region
  simp [wpOpsS, go_sem, hu, Exit.thenS]
  refine wpS_cond (t := false) (by simp [Act.eval, Array.replicate]) ?_
  simp only [Bool.false_eq_true, if_false]
  refine wpS_of_wp (wp_skip ?_)
  cases c₀
  simp_all [bodyPostS, results, Tryz.results41]
theorem drew_at (w : World) (k : Nat) : w.drew.heap[k]? = w.heap[k]? := rfl
theorem cf_cells {wx : World} {bq er a : Nat} (hw : wx.heap[bq]? = some (.cells #[.int .i64 (er : Nat), .int .i64 (a : Nat)] 78)) : wx.cell? ⟨bq, 0, none⟩ = some (.int .i64 (er : Nat)) ∧ wx.cell? ⟨bq, 1, none⟩ = some (.int .i64 (a : Nat)) := by
  obtain ⟨y0, y1, -⟩ := Blk.cells2 (o := fun _ => 0) (i := 0) ⟨hw, rfl⟩
  exact ⟨y0, y1⟩
section
variable {w w1 : World} {B bq er a : Nat} {v0 v1 v2 v3 v4 ve va : Value}
theorem cf1 (R1 : w1.heap[bq]? = some (.cells #[.int .i64 (er : Nat), .int .i64 (a : Nat)] 78)) : w1.drew.cell? ⟨bq, 0, none⟩ = some (.int .i64 (er : Nat)) ∧ w1.drew.cell? ⟨bq, 1, none⟩ = some (.int .i64 (a : Nat)) := cf_cells (wx := w1.drew) ((drew_at _ bq).trans R1)
theorem cf5 (R1 : w1.heap[bq]? = some (.cells #[.int .i64 (er : Nat), .int .i64 (a : Nat)] 78)) (hB : B + 2 < bq) : ((World.setCell (World.setCell (World.setCell (World.setCell (World.setCell w1 ⟨B, 0, none⟩ (.int .i64 0)) ⟨B, 1, none⟩ (.int .i64 0)) ⟨B, 2, none⟩ (.string ⟨#[]⟩)) ⟨B, 3, none⟩ (.slice none 0 0)) ⟨B, 4, none⟩ (.int .i64 0))).drew.cell? ⟨bq, 0, none⟩ = some (.int .i64 (er : Nat)) ∧ ((World.setCell (World.setCell (World.setCell (World.setCell (World.setCell w1 ⟨B, 0, none⟩ (.int .i64 0)) ⟨B, 1, none⟩ (.int .i64 0)) ⟨B, 2, none⟩ (.string ⟨#[]⟩)) ⟨B, 3, none⟩ (.slice none 0 0)) ⟨B, 4, none⟩ (.int .i64 0))).drew.cell? ⟨bq, 1, none⟩ = some (.int .i64 (a : Nat)) := cf_cells (wx := ((World.setCell (World.setCell (World.setCell (World.setCell (World.setCell w1 ⟨B, 0, none⟩ (.int .i64 0)) ⟨B, 1, none⟩ (.int .i64 0)) ⟨B, 2, none⟩ (.string ⟨#[]⟩)) ⟨B, 3, none⟩ (.slice none 0 0)) ⟨B, 4, none⟩ (.int .i64 0))).drew) ((drew_at _ bq).trans ((heap_set5 w1 B bq (.int .i64 0) (.int .i64 0) (.string ⟨#[]⟩) (.slice none 0 0) (.int .i64 0) (by omega)).trans R1))
theorem cf6 (R1 : w1.heap[bq]? = some (.cells #[.int .i64 (er : Nat), .int .i64 (a : Nat)] 78)) (hB : B + 2 < bq) : ((World.setCell (World.setCell (World.setCell (World.setCell (World.setCell (World.setCell w1 ⟨B, 0, none⟩ (.int .i64 0)) ⟨B, 1, none⟩ (.int .i64 0)) ⟨B, 2, none⟩ (.string ⟨#[]⟩)) ⟨B, 3, none⟩ (.slice none 0 0)) ⟨B, 4, none⟩ (.int .i64 0)) ⟨B + 1, 0, none⟩ (.int .i64 (er : Nat)))).drew.cell? ⟨bq, 0, none⟩ = some (.int .i64 (er : Nat)) ∧ ((World.setCell (World.setCell (World.setCell (World.setCell (World.setCell (World.setCell w1 ⟨B, 0, none⟩ (.int .i64 0)) ⟨B, 1, none⟩ (.int .i64 0)) ⟨B, 2, none⟩ (.string ⟨#[]⟩)) ⟨B, 3, none⟩ (.slice none 0 0)) ⟨B, 4, none⟩ (.int .i64 0)) ⟨B + 1, 0, none⟩ (.int .i64 (er : Nat)))).drew.cell? ⟨bq, 1, none⟩ = some (.int .i64 (a : Nat)) := cf_cells (wx := ((World.setCell (World.setCell (World.setCell (World.setCell (World.setCell (World.setCell w1 ⟨B, 0, none⟩ (.int .i64 0)) ⟨B, 1, none⟩ (.int .i64 0)) ⟨B, 2, none⟩ (.string ⟨#[]⟩)) ⟨B, 3, none⟩ (.slice none 0 0)) ⟨B, 4, none⟩ (.int .i64 0)) ⟨B + 1, 0, none⟩ (.int .i64 (er : Nat)))).drew) ((drew_at _ bq).trans ((heap_setCell_other (World.setCell (World.setCell (World.setCell (World.setCell (World.setCell w1 ⟨B, 0, none⟩ (.int .i64 0)) ⟨B, 1, none⟩ (.int .i64 0)) ⟨B, 2, none⟩ (.string ⟨#[]⟩)) ⟨B, 3, none⟩ (.slice none 0 0)) ⟨B, 4, none⟩ (.int .i64 0)) ⟨B + 1, 0, none⟩ bq (.int .i64 (er : Nat)) (show bq ≠ B + 1 by omega)).trans ((heap_set5 w1 B bq (.int .i64 0) (.int .i64 0) (.string ⟨#[]⟩) (.slice none 0 0) (.int .i64 0) (by omega)).trans R1)))
theorem cf7 (R1 : w1.heap[bq]? = some (.cells #[.int .i64 (er : Nat), .int .i64 (a : Nat)] 78)) (hB : B + 2 < bq) : ((World.setCell (World.setCell (World.setCell (World.setCell (World.setCell (World.setCell (World.setCell w1 ⟨B, 0, none⟩ (.int .i64 0)) ⟨B, 1, none⟩ (.int .i64 0)) ⟨B, 2, none⟩ (.string ⟨#[]⟩)) ⟨B, 3, none⟩ (.slice none 0 0)) ⟨B, 4, none⟩ (.int .i64 0)) ⟨B + 1, 0, none⟩ (.int .i64 (er : Nat))) ⟨B + 2, 0, none⟩ (.int .i64 (a : Nat)))).drew.cell? ⟨bq, 0, none⟩ = some (.int .i64 (er : Nat)) ∧ ((World.setCell (World.setCell (World.setCell (World.setCell (World.setCell (World.setCell (World.setCell w1 ⟨B, 0, none⟩ (.int .i64 0)) ⟨B, 1, none⟩ (.int .i64 0)) ⟨B, 2, none⟩ (.string ⟨#[]⟩)) ⟨B, 3, none⟩ (.slice none 0 0)) ⟨B, 4, none⟩ (.int .i64 0)) ⟨B + 1, 0, none⟩ (.int .i64 (er : Nat))) ⟨B + 2, 0, none⟩ (.int .i64 (a : Nat)))).drew.cell? ⟨bq, 1, none⟩ = some (.int .i64 (a : Nat)) := cf_cells (wx := ((World.setCell (World.setCell (World.setCell (World.setCell (World.setCell (World.setCell (World.setCell w1 ⟨B, 0, none⟩ (.int .i64 0)) ⟨B, 1, none⟩ (.int .i64 0)) ⟨B, 2, none⟩ (.string ⟨#[]⟩)) ⟨B, 3, none⟩ (.slice none 0 0)) ⟨B, 4, none⟩ (.int .i64 0)) ⟨B + 1, 0, none⟩ (.int .i64 (er : Nat))) ⟨B + 2, 0, none⟩ (.int .i64 (a : Nat)))).drew) ((drew_at _ bq).trans ((heap_setCell_other (World.setCell (World.setCell (World.setCell (World.setCell (World.setCell (World.setCell w1 ⟨B, 0, none⟩ (.int .i64 0)) ⟨B, 1, none⟩ (.int .i64 0)) ⟨B, 2, none⟩ (.string ⟨#[]⟩)) ⟨B, 3, none⟩ (.slice none 0 0)) ⟨B, 4, none⟩ (.int .i64 0)) ⟨B + 1, 0, none⟩ (.int .i64 (er : Nat))) ⟨B + 2, 0, none⟩ bq (.int .i64 (a : Nat)) (show bq ≠ B + 2 by omega)).trans ((heap_setCell_other (World.setCell (World.setCell (World.setCell (World.setCell (World.setCell w1 ⟨B, 0, none⟩ (.int .i64 0)) ⟨B, 1, none⟩ (.int .i64 0)) ⟨B, 2, none⟩ (.string ⟨#[]⟩)) ⟨B, 3, none⟩ (.slice none 0 0)) ⟨B, 4, none⟩ (.int .i64 0)) ⟨B + 1, 0, none⟩ bq (.int .i64 (er : Nat)) (show bq ≠ B + 1 by omega)).trans ((heap_set5 w1 B bq (.int .i64 0) (.int .i64 0) (.string ⟨#[]⟩) (.slice none 0 0) (.int .i64 0) (by omega)).trans R1))))
end
theorem cf_end {w w1 : World} {B : Nat} (er a : Nat) {v0 v1 v2 v3 v4 ve va : Value} (h : Bx3 w1 B v0 v1 v2 v3 v4 ve va) (BB : Below B w w1) : Bx3 ((World.setCell (World.setCell (World.setCell (World.setCell (World.setCell (World.setCell (World.setCell w1 ⟨B, 0, none⟩ (.int .i64 0)) ⟨B, 1, none⟩ (.int .i64 0)) ⟨B, 2, none⟩ (.string ⟨#[]⟩)) ⟨B, 3, none⟩ (.slice none 0 0)) ⟨B, 4, none⟩ (.int .i64 0)) ⟨B + 1, 0, none⟩ (.int .i64 (er : Nat))) ⟨B + 2, 0, none⟩ (.int .i64 (a : Nat)))).drew B (.int .i64 0) (.int .i64 0) (.string ⟨#[]⟩) (.slice none 0 0) (.int .i64 0) (.int .i64 (er : Nat)) (.int .i64 (a : Nat)) ∧ Below B w ((World.setCell (World.setCell (World.setCell (World.setCell (World.setCell (World.setCell (World.setCell w1 ⟨B, 0, none⟩ (.int .i64 0)) ⟨B, 1, none⟩ (.int .i64 0)) ⟨B, 2, none⟩ (.string ⟨#[]⟩)) ⟨B, 3, none⟩ (.slice none 0 0)) ⟨B, 4, none⟩ (.int .i64 0)) ⟨B + 1, 0, none⟩ (.int .i64 (er : Nat))) ⟨B + 2, 0, none⟩ (.int .i64 (a : Nat)))).drew := by
  have e5 := (heap_set5 w1 B (B + 1) (.int .i64 0) (.int .i64 0) (.string ⟨#[]⟩) (.slice none 0 0) (.int .i64 0) (by omega)).trans h.e
  have a5 := (heap_set5 w1 B (B + 2) (.int .i64 0) (.int .i64 0) (.string ⟨#[]⟩) (.slice none 0 0) (.int .i64 0) (by omega)).trans h.a
  have a6 := (heap_setCell_other (World.setCell (World.setCell (World.setCell (World.setCell (World.setCell w1 ⟨B, 0, none⟩ (.int .i64 0)) ⟨B, 1, none⟩ (.int .i64 0)) ⟨B, 2, none⟩ (.string ⟨#[]⟩)) ⟨B, 3, none⟩ (.slice none 0 0)) ⟨B, 4, none⟩ (.int .i64 0)) ⟨B + 1, 0, none⟩ (B + 2) (.int .i64 (er : Nat)) (show B + 2 ≠ B + 1 by omega)).trans a5
  have t5 := set5k (.int .i64 0) (.int .i64 0) (.string ⟨#[]⟩) (.slice none 0 0) (.int .i64 0) h.t
  have t6 := (heap_setCell_other _ ⟨B + 1, 0, none⟩ B (.int .i64 (er : Nat)) (show B ≠ B + 1 by omega)).trans t5
  have t7 := (heap_setCell_other _ ⟨B + 2, 0, none⟩ B (.int .i64 (a : Nat)) (show B ≠ B + 2 by omega)).trans t6
  have e6 := (Blk.set (o := fun _ => 0) (i := 0) ⟨e5, rfl⟩ 0 (.int .i64 (er : Nat))).1
  have e7 := (heap_setCell_other _ ⟨B + 2, 0, none⟩ (B + 1) (.int .i64 (a : Nat)) (show B + 1 ≠ B + 2 by omega)).trans e6
  have a7 := (Blk.set (o := fun _ => 0) (i := 0) ⟨a6, rfl⟩ 0 (.int .i64 (a : Nat))).1
  have B6 := ((((BB.setCell (p := ⟨B, 0, none⟩) (Nat.le_refl _) (.int .i64 0)).setCell (p := ⟨B, 1, none⟩) (Nat.le_refl _) (.int .i64 0)).setCell (p := ⟨B, 2, none⟩) (Nat.le_refl _) (.string ⟨#[]⟩)).setCell (p := ⟨B, 3, none⟩) (Nat.le_refl _) (.slice none 0 0)).setCell (p := ⟨B, 4, none⟩) (Nat.le_refl _) (.int .i64 0)
  have B7 := (B6.setCell (p := ⟨B + 1, 0, none⟩) (show B ≤ B + 1 by omega) (.int .i64 (er : Nat))).setCell (p := ⟨B + 2, 0, none⟩) (show B ≤ B + 2 by omega) (.int .i64 (a : Nat))
  exact ⟨⟨(drew_at _ _).trans t7, (drew_at _ _).trans e7, (drew_at _ _).trans a7⟩, B7.drew⟩
set_option maxRecDepth 100000 in
set_option maxHeartbeats 1000000 in
theorem catch_panics (B er a : Nat) (older : List PanicEntry) (w : World) {v0 v1 v2 v3 v4 ve va : Value} (h : Bx3 w B v0 v1 v2 v3 v4 ve va) :
    CallsD Tryz.prog 41 #[.pointer (some ⟨B, 0, none⟩), .pointer (some ⟨B + 1, 0, none⟩), .pointer (some ⟨B + 2, 0, none⟩)] (.panicking ({ v := .iface 78 (.agg #[.int .i64 (er : Nat), .int .i64 (a : Nat)]), recovered := false } :: older)) w fun e u' w' => e = .returned (.tuple #[]) ∧ u' = .panicking ({ v := .iface 78 (.agg #[.int .i64 (er : Nat), .int .i64 (a : Nat)]), recovered := true } :: older) ∧ Bx3 w' B (.int .i64 0) (.int .i64 0) (.string ⟨#[]⟩) (.slice none 0 0) (.int .i64 0) (.int .i64 (er : Nat)) (.int .i64 (a : Nat)) ∧ Below B w w' := by
  refine callsD_of_wpS Tryz.func41 rfl fun c₀ cs hu => ?_
  apply wpS_seq
  apply wpS_region
  simp [wpOpsS, go_sem, recoverD, hu, Tryz.ntmps41, Exit.thenS]
  refine wpS_of_wp ?_
  show Code.wp Tryz.prog _ _ { tmps := #[.pointer (some ⟨B, 0, none⟩), .pointer (some ⟨B + 1, 0, none⟩), .pointer (some ⟨B + 2, 0, none⟩), .iface 78 (.agg #[.int .i64 (er : Nat), .int .i64 (a : Nat)]), undef, .iface 78 (.agg #[.int .i64 (er : Nat), .int .i64 (a : Nat)]), undef, undef, undef, undef, undef, undef, undef, undef, undef], defers := [] } w
  suffices HS : ∀ Q : Exit → Act → World → Prop, (∀ a' w', a'.defers = [] → Bx3 w' B (.int .i64 0) (.int .i64 0) (.string ⟨#[]⟩) (.slice none 0 0) (.int .i64 0) (.int .i64 (er : Nat)) (.int .i64 (a : Nat)) ∧ Below B w w' → Q .normal a' w') → Code.wp Tryz.prog _ Q { tmps := #[.pointer (some ⟨B, 0, none⟩), .pointer (some ⟨B + 1, 0, none⟩), .pointer (some ⟨B + 2, 0, none⟩), .iface 78 (.agg #[.int .i64 (er : Nat), .int .i64 (a : Nat)]), undef, .iface 78 (.agg #[.int .i64 (er : Nat), .int .i64 (a : Nat)]), undef, undef, undef, undef, undef, undef, undef, undef, undef], defers := [] } w by
    refine HS _ ?_
    rintro a' w' h0 ⟨h1, h2⟩
    simp [bodyPostS, results, Tryz.results41, h0, h1, h2]
  intro Q HN
  clear hu
  have hta : ∀ w : World, (Instr.typeAssert (.iface 78 (.agg #[.int .i64 (er : Nat), .int .i64 (a : Nat)])) 20 78 false).run Tryz.prog w = .ok (.agg #[.int .i64 (er : Nat), .int .i64 (a : Nat)]) w := fun _ => by kernel_rfl
  have hB2 : B + 2 < w.heap.size := lt_of_block h.a
  have R1 : (w.alloc (.cells #[.int .i64 (er : Nat), .int .i64 (a : Nat)] 78)).heap[w.heap.size]? = some (.cells #[.int .i64 (er : Nat), .int .i64 (a : Nat)] 78) := heap_alloc_new w _
  have t1 := (Below.heap_alloc w (.cells #[.int .i64 (er : Nat), .int .i64 (a : Nat)] 78) _ (lt_of_block h.t)).trans h.t
  have e1 := (Below.heap_alloc w (.cells #[.int .i64 (er : Nat), .int .i64 (a : Nat)] 78) _ (lt_of_block h.e)).trans h.e
  have a1 := (Below.heap_alloc w (.cells #[.int .i64 (er : Nat), .int .i64 (a : Nat)] 78) _ (lt_of_block h.a)).trans h.a
  have BB : Below B w (w.alloc (.cells #[.int .i64 (er : Nat), .int .i64 (a : Nat)] 78)) := (Below.refl _ w).alloc (by omega) _
  go_upto_region 3 with fail
  generalize w.alloc (.cells #[.int .i64 (er : Nat), .int .i64 (a : Nat)] 78) = w1 at *
  generalize w.heap.size = bq at *
  obtain ⟨z0, z1, z2, z3, z4, zf⟩ := box5 t1
  obtain ⟨g0, gf⟩ := Blk.cells1 e1
  obtain ⟨k0, kf⟩ := Blk.cells1 a1
  have HR : Hid (w1.heap[bq]? = some (.cells #[.int .i64 (er : Nat), .int .i64 (a : Nat)] 78)) := R1
  have HX : Hid (Bx3 w1 B v0 v1 v2 v3 v4 ve va) := ⟨t1, e1, a1⟩
  have HBB : Hid (Below B w w1) := BB
  clear R1 t1 e1 a1 BB h hta
  refine wp_region_noPanic ?_
  refine wp_region_held_drew (S := fun wx => wx.cell? ⟨bq, 0, none⟩ = some (.int .i64 (er : Nat)) ∧ wx.cell? ⟨bq, 1, none⟩ = some (.int .i64 (a : Nat))) (by kernel_rfl) (cf1 HR.out) (fun hHeld => ?_)
  refine wpAnyH_take (i := 0) (v := ?v0) rfl (by kernel_rfl) (by kernel_rfl) (by kernel_rfl) (fun _ _ _ h => h) (Or.inl ⟨by rfl, ?hy0⟩) (by assumption) ?rest0
  case hy0 => (intro w hSw; (try dsimp only at hSw); go_simp; all_goals (with_reducible rfl))
  simp only [Act.put, List.getElem_toArray, List.getElem_cons_zero, List.getElem_cons_succ, List.setIfInBounds_toArray, List.set_cons_zero, List.set_cons_succ]
  refine wpAnyH_take (i := 1) (v := ?v1) rfl (by kernel_rfl) (by kernel_rfl) (by kernel_rfl) (fun _ _ _ h => h) (Or.inl ⟨by rfl, ?hy1⟩) (by assumption) ?rest1
  case hy1 => (intro w hSw; (try dsimp only at hSw); go_simp; all_goals (with_reducible rfl))
  simp only [Act.put, List.getElem_toArray, List.getElem_cons_zero, List.getElem_cons_succ, List.setIfInBounds_toArray, List.set_cons_zero, List.set_cons_succ]
  refine wpAnyH_take (i := 2) (v := ?v2) rfl (by kernel_rfl) (by kernel_rfl) (by kernel_rfl) (fun _ _ _ h => h) (Or.inl ⟨by rfl, ?hy2⟩) (by assumption) ?rest2
  case hy2 => (intro w hSw; (try dsimp only at hSw); go_simp; all_goals (with_reducible rfl))
  simp only [Act.put, List.getElem_toArray, List.getElem_cons_zero, List.getElem_cons_succ, List.setIfInBounds_toArray, List.set_cons_zero, List.set_cons_succ]
  refine wpAnyH_take (i := 3) (v := ?v3) rfl (by kernel_rfl) (by kernel_rfl) (by kernel_rfl) (fun _ _ _ h => h) (Or.inl ⟨by rfl, ?hy3⟩) (by assumption) ?rest3
  case hy3 => (intro w hSw; (try dsimp only at hSw); go_simp; all_goals (with_reducible rfl))
  simp only [Act.put, List.getElem_toArray, List.getElem_cons_zero, List.getElem_cons_succ, List.setIfInBounds_toArray, List.set_cons_zero, List.set_cons_succ]
  refine wpAnyH_take (i := 4) (v := ?v4) rfl (by kernel_rfl) (by kernel_rfl) (by kernel_rfl) (fun _ _ _ h => h) (Or.inl ⟨by rfl, ?hy4⟩) (by assumption) ?rest4
  case hy4 => (intro w hSw; (try dsimp only at hSw); go_simp; all_goals (with_reducible rfl))
  simp only [Act.put, List.getElem_toArray, List.getElem_cons_zero, List.getElem_cons_succ, List.setIfInBounds_toArray, List.set_cons_zero, List.set_cons_succ]
  refine wpAnyH_ready (rs := [5]) (by kernel_rfl) (by simp) ?_
  refine AllReadyH.cons rfl (fun K hK => ?_) AllReadyH.nil
  rw [if_pos (by rfl)]
  go_simp
  refine hK.out _ _ (cf5 HR.out hB2) (fun hHeld => ?_)
  clear hK K
  try simp only [Act.put, List.getElem_toArray, List.getElem_cons_zero, List.getElem_cons_succ, List.setIfInBounds_toArray, List.set_cons_zero, List.set_cons_succ]
  refine wpAnyH_ready (rs := [6]) (by kernel_rfl) (by simp) ?_
  refine AllReadyH.cons rfl (fun K hK => ?_) AllReadyH.nil
  rw [if_pos (by rfl)]
  go_simp
  refine hK.out _ _ (cf6 HR.out hB2) (fun hHeld => ?_)
  clear hK K
  try simp only [Act.put, List.getElem_toArray, List.getElem_cons_zero, List.getElem_cons_succ, List.setIfInBounds_toArray, List.set_cons_zero, List.set_cons_succ]
  refine wpAnyH_ready (rs := [7]) (by kernel_rfl) (by simp) ?_
  refine AllReadyH.cons rfl (fun K hK => ?_) AllReadyH.nil
  rw [if_pos (by rfl)]
  go_simp
  refine hK.out _ _ (cf7 HR.out hB2) (fun hHeld => ?_)
  clear hK K
  try simp only [Act.put, List.getElem_toArray, List.getElem_cons_zero, List.getElem_cons_succ, List.setIfInBounds_toArray, List.set_cons_zero, List.set_cons_succ]
  refine wpAnyH_done (by kernel_rfl) ?_ _
  refine NoPanic.normal ?_
  exact HN _ _ rfl (cf_end er a HX.out HBB.out)
end Go.Proofs.YtafnlhnenmpfoaaGreatDoor
namespace Go.Proofs.YtafnlhnenmpfoaaGreatDoor
open Go.ChangeShapes Go.WideShapes Go.ChangeAt Go.RowKit
set_option linter.unusedVariables false
set_option linter.unusedSimpArgs false

/-- The three tables lie in memory. -/
structure Tb3 (w : World) : Prop where
  op : OpW w
  cl : ClW w
  qn : QnW w
theorem Tb3.below {w w' : World} (h : Tb3 w) (b : Below w.heap.size w w') : Tb3 w' := ⟨h.op.below b, h.cl.below b, h.qn.below b⟩
theorem Tb3.tabs {w : World} {rb : Nat} (h : Tb3 w) (hr : w.heap.size ≤ rb) {w' : World} (b : Below w.heap.size w w') : Tabs rb w' := ⟨h.op.below b, h.cl.below b, h.qn.below b, Nat.lt_of_lt_of_le h.op.lt hr, Nat.lt_of_lt_of_le h.cl.lt hr, Nat.lt_of_lt_of_le h.qn.lt hr⟩
/-- What the reading of all tokens answers and leaves. -/
def PostR (w : World) (res : Rs Ex) (e : Ending) (w' : World) : Prop :=
  match res with
  | ⟨none⟩ => False
  | ⟨some (.inl (er, a))⟩ => e = .returned (.tuple #[exV noEx none 0, .int .i64 (er : Nat), .int .i64 (a : Nat)]) ∧ Below w.heap.size w w'
  | ⟨some (.inr (x, _))⟩ => ∃ ao cap, e = .returned (.tuple #[exV x ao cap, .int .i64 0, .int .i64 0]) ∧ Sl w' (Nw w.heap.size) x.kids ao ∧ Below w.heap.size w w'
theorem Bx3.keep {w w' : World} {B rb : Nat} {v0 v1 v2 v3 v4 e a : Value} (h : Bx3 w B v0 v1 v2 v3 v4 e a) (k : Keep rb w w') (hr : B + 2 < rb) : Bx3 w' B v0 v1 v2 v3 v4 e a := ⟨k.blk h.t (by omega), k.blk h.e (by omega), k.blk h.a (by omega)⟩
set_option maxRecDepth 100000 in
set_option maxHeartbeats 1000000 in
theorem read_r {ts : List Tk} (n : Nat) (hn1 : n ≤ 1000000) (v : Value) (w : World) (b0 : Nat) (hT : w.ownsRow b0 47 4 v ts.length (tcells ts)) (h0 : 0 < ts.length) (hl : ts.length ≤ 3000) (hB : Tb3 w) (hn : readF n ts ≠ .out) :
    Calls Tryz.prog 24 #[v] w (PostR w (readF n ts)) := by
  obtain ⟨W, hW⟩ : ∃ W, W = readF n ts := ⟨_, rfl⟩
  rw [← hW] at hn ⊢
  have HW : Hid (W = readF n ts) := hW
  have r0 : Row w (fun _ => 0) 0 47 4 v ts.length (tcells ts) := ⟨ownsRow_base0 hT, fun _ _ => rfl⟩
  obtain ⟨g, cap, rfl, -, hc1, hc2, hg, hcell, -⟩ := r0.pos h0
  have hmf : ∀ (fn : Fn) (first cap : Array Value) (w : World), (Instr.makeFunc fn first cap).run Tryz.prog w = .ok (.func fn first cap) w := fun _ _ _ _ => rfl
  have s1 : (w.alloc (.cells #[.int .i64 0, .int .i64 0, .string ⟨#[]⟩, .slice none 0 0, .int .i64 0] 25)).heap.size = w.heap.size + 1 := by simp
  have s2 : ((w.alloc (.cells #[.int .i64 0, .int .i64 0, .string ⟨#[]⟩, .slice none 0 0, .int .i64 0] 25)).alloc (.cells #[.int .i64 0] 26)).heap.size = w.heap.size + 2 := by simp
  have s3 : (((w.alloc (.cells #[.int .i64 0, .int .i64 0, .string ⟨#[]⟩, .slice none 0 0, .int .i64 0] 25)).alloc (.cells #[.int .i64 0] 26)).alloc (.cells #[.int .i64 0] 3)).heap.size = w.heap.size + 3 := by simp
  have B4 : Below w.heap.size w ((((w.alloc (.cells #[.int .i64 0, .int .i64 0, .string ⟨#[]⟩, .slice none 0 0, .int .i64 0] 25)).alloc (.cells #[.int .i64 0] 26)).alloc (.cells #[.int .i64 0] 3)).alloc (.cells #[.slice (some ⟨g, 0, none⟩) ts.length cap, .int .i64 0, .int .i64 0, .int .i64 0] 81)) := ((((Below.refl _ w).alloc (Nat.le_refl _) _).alloc (by rw [s1]; omega) _).alloc (by rw [s2]; omega) _).alloc (by rw [s3]; omega) _
  have X4 : Bx3 ((((w.alloc (.cells #[.int .i64 0, .int .i64 0, .string ⟨#[]⟩, .slice none 0 0, .int .i64 0] 25)).alloc (.cells #[.int .i64 0] 26)).alloc (.cells #[.int .i64 0] 3)).alloc (.cells #[.slice (some ⟨g, 0, none⟩) ts.length cap, .int .i64 0, .int .i64 0, .int .i64 0] 81)) w.heap.size (.int .i64 0) (.int .i64 0) (.string ⟨#[]⟩) (.slice none 0 0) (.int .i64 0) (.int .i64 0) (.int .i64 0) := by
    refine ⟨?_, ?_, ?_⟩
    · exact (Below.heap_alloc _ _ _ (by rw [s3]; omega)).trans ((Below.heap_alloc _ _ _ (by rw [s2]; omega)).trans ((Below.heap_alloc _ _ _ (by rw [s1]; omega)).trans (heap_alloc_new w _)))
    · have := heap_alloc_new (w.alloc (.cells #[.int .i64 0, .int .i64 0, .string ⟨#[]⟩, .slice none 0 0, .int .i64 0] 25)) (.cells #[.int .i64 0] 26)
      rw [s1] at this
      exact (Below.heap_alloc _ _ _ (by rw [s3]; omega)).trans ((Below.heap_alloc _ _ _ (by rw [s2]; omega)).trans this)
    · have := heap_alloc_new ((w.alloc (.cells #[.int .i64 0, .int .i64 0, .string ⟨#[]⟩, .slice none 0 0, .int .i64 0] 25)).alloc (.cells #[.int .i64 0] 26)) (.cells #[.int .i64 0] 3)
      rw [s2] at this
      exact (Below.heap_alloc _ _ _ (by rw [s3]; omega)).trans this
  have R4 : RdS ((((w.alloc (.cells #[.int .i64 0, .int .i64 0, .string ⟨#[]⟩, .slice none 0 0, .int .i64 0] 25)).alloc (.cells #[.int .i64 0] 26)).alloc (.cells #[.int .i64 0] 3)).alloc (.cells #[.slice (some ⟨g, 0, none⟩) ts.length cap, .int .i64 0, .int .i64 0, .int .i64 0] 81)) (w.heap.size + 3) 0 0 ts := by
    have := heap_alloc_new (((w.alloc (.cells #[.int .i64 0, .int .i64 0, .string ⟨#[]⟩, .slice none 0 0, .int .i64 0] 25)).alloc (.cells #[.int .i64 0] 26)).alloc (.cells #[.int .i64 0] 3)) (.cells #[.slice (some ⟨g, 0, none⟩) ts.length cap, .int .i64 0, .int .i64 0, .int .i64 0] 81)
    rw [s3] at this
    refine ⟨g, cap, ts, 0, this, by omega, fun j u hu => (B4.cell (p := ⟨g, j, none⟩) hg).trans ?_, rfl, by omega, hl, hc1, hc2⟩
    rw [hcell j ?_]
    · exact hu
    · have hlen := r0.len
      rw [← hlen]
      by_cases hj : j < (tcells ts).length
      · exact hj
      · rw [List.getElem?_eq_none (by omega)] at hu
        cases hu
  have T4 : Tabs (w.heap.size + 3) ((((w.alloc (.cells #[.int .i64 0, .int .i64 0, .string ⟨#[]⟩, .slice none 0 0, .int .i64 0] 25)).alloc (.cells #[.int .i64 0] 26)).alloc (.cells #[.int .i64 0] 3)).alloc (.cells #[.slice (some ⟨g, 0, none⟩) ts.length cap, .int .i64 0, .int .i64 0, .int .i64 0] 81)) := hB.tabs (by omega) B4
  have hsz4 : ((((w.alloc (.cells #[.int .i64 0, .int .i64 0, .string ⟨#[]⟩, .slice none 0 0, .int .i64 0] 25)).alloc (.cells #[.int .i64 0] 26)).alloc (.cells #[.int .i64 0] 3)).alloc (.cells #[.slice (some ⟨g, 0, none⟩) ts.length cap, .int .i64 0, .int .i64 0, .int .i64 0] 81)).heap.size = w.heap.size + 4 := by simp
  clear hW s1 s2 s3 hT r0 hcell hB
  go_enter_defers Tryz.func24, Tryz.ntmps24
  go_upto_region 3 with fail
  generalize (((w.alloc (.cells #[.int .i64 0, .int .i64 0, .string ⟨#[]⟩, .slice none 0 0, .int .i64 0] 25)).alloc (.cells #[.int .i64 0] 26)).alloc (.cells #[.int .i64 0] 3)).alloc (.cells #[.slice (some ⟨g, 0, none⟩) ts.length cap, .int .i64 0, .int .i64 0, .int .i64 0] 81) = w4 at *
  obtain ⟨B, hBe⟩ : ∃ B, B = w.heap.size := ⟨_, rfl⟩
  rw [← hBe] at B4 X4 R4 T4 hsz4 ⊢
  have HBE : Hid (B = w.heap.size) := hBe
  clear hBe
  have c5 := query_r (part_ok n hn1) (by omega) (by omega) R4 T4 (fun e => hn (by rw [HW.out]; unfold readF; rw [e]; rfl))
  go_wp2_with fail
  refine c5.mono ?_
  rintro e w5 hP
  clear c5
  cases hr : partF n 1 0 0 ts using Rs.on with
  | out => rw [hr] at hP; exact hP.elim
  | bad er a =>
    rw [hr] at hP
    obtain ⟨rfl, k5⟩ := hP
    have FIN : Hid (W = .bad er a) := by show W = _; rw [HW.out]; unfold readF; rw [hr]; rfl
    have X5 := X4.keep k5 (by omega)
    have B5 : Below B w w5 := B4.trans (k5.below (by omega) (by omega))
    clear HW hr X4 R4 T4 B4 k5
    go_wp2
    refine leaves_cons (f := 41) (args := #[.pointer (some ⟨B, 0, none⟩), .pointer (some ⟨B + 1, 0, none⟩), .pointer (some ⟨B + 2, 0, none⟩)]) (by simp) (by simp [go_sem]) ?_
    refine (catch_panics B er a [] w5 X5).mono ?_
    rintro e u' w6 ⟨rfl, rfl, X6, b6⟩
    have B6 := B5.trans b6
    obtain ⟨z0, z1, z2, z3, z4, -⟩ := box5 X6.t
    obtain ⟨g0, -⟩ := Blk.cells1 X6.e
    obtain ⟨a0, -⟩ := Blk.cells1 X6.a
    have E : PostR w W (.returned (.tuple #[exV noEx none 0, .int .i64 (er : Nat), .int .i64 (a : Nat)])) w6 := by rw [FIN.out]; exact ⟨rfl, by rw [← HBE.out]; exact B6⟩
    clear FIN
    have a0' : w6.cell? ⟨B + 1 + 1, 0, none⟩ = some (.int .i64 (a : Nat)) := a0
    unfold exV noEx at E
    simp only [Fs.len] at E
    simp [Leaves, settle, results, Tryz.results24, go_sem, z0, z1, z2, z3, z4, g0, a0, a0']
    exact E
  | ok x t =>
    rw [hr] at hP
    obtain ⟨ao, cap5, rfl, S5, R5, k5⟩ := hP
    have X5 := X4.keep k5 (by omega)
    have B5 : Below B w w5 := B4.trans (k5.below (by omega) (by omega))
    have S6 := S5.set5 (b := B) (by omega) (.int .i64 x.k) (.int .i64 x.n) (stv x.nm) (.slice ao x.kids.len cap5) (.int .i64 x.a)
    have R6 := (((((R5.setL ⟨B, 0, none⟩ (.int .i64 x.k) (show B < B + 3 by omega) (show B + 3 ≤ B + 3 by omega)).setL ⟨B, 1, none⟩ (.int .i64 x.n) (show B < B + 3 by omega) (show B + 3 ≤ B + 3 by omega)).setL ⟨B, 2, none⟩ (stv x.nm) (show B < B + 3 by omega) (show B + 3 ≤ B + 3 by omega)).setL ⟨B, 3, none⟩ (.slice ao x.kids.len cap5) (show B < B + 3 by omega) (show B + 3 ≤ B + 3 by omega)).setL ⟨B, 4, none⟩ (.int .i64 x.a) (show B < B + 3 by omega) (show B + 3 ≤ B + 3 by omega))
    have t6 := set5k (.int .i64 x.k) (.int .i64 x.n) (stv x.nm) (.slice ao x.kids.len cap5) (.int .i64 x.a) X5.t
    have e6 := (heap_set5 w5 B (B + 1) (.int .i64 x.k) (.int .i64 x.n) (stv x.nm) (.slice ao x.kids.len cap5) (.int .i64 x.a) (by omega)).trans X5.e
    have a6 := (heap_set5 w5 B (B + 2) (.int .i64 x.k) (.int .i64 x.n) (stv x.nm) (.slice ao x.kids.len cap5) (.int .i64 x.a) (by omega)).trans X5.a
    have B6 := ((((B5.setCell (p := ⟨B, 0, none⟩) (Nat.le_refl _) (.int .i64 x.k)).setCell (p := ⟨B, 1, none⟩) (Nat.le_refl _) (.int .i64 x.n)).setCell (p := ⟨B, 2, none⟩) (Nat.le_refl _) (stv x.nm)).setCell (p := ⟨B, 3, none⟩) (Nat.le_refl _) (.slice ao x.kids.len cap5)).setCell (p := ⟨B, 4, none⟩) (Nat.le_refl _) (.int .i64 x.a)
    obtain ⟨z0, z1, z2, z3, z4, zf⟩ := box5 X5.t
    clear X4 R4 T4 B4 k5 S5 R5 B5
    rw [exV_out]
    go_upto_region 4 with fail
    generalize (World.setCell (World.setCell (World.setCell (World.setCell (World.setCell w5 ⟨B, 0, none⟩ (.int .i64 x.k)) ⟨B, 1, none⟩ (.int .i64 x.n)) ⟨B, 2, none⟩ (stv x.nm)) ⟨B, 3, none⟩ (.slice ao x.kids.len cap5)) ⟨B, 4, none⟩ (.int .i64 x.a)) = w6 at *
    have X6 : Bx3 w6 B (.int .i64 x.k) (.int .i64 x.n) (stv x.nm) (.slice ao x.kids.len cap5) (.int .i64 x.a) (.int .i64 0) (.int .i64 0) := ⟨t6, e6, a6⟩
    have hB6 : B + 3 < w6.heap.size := R6.lt
    clear t6 e6 a6 z0 z1 z2 z3 z4 zf X5
    cases t with
    | nil => exact absurd (by rw [HW.out]; unfold readF; rw [hr]; rfl) hn
    | cons y l =>
    have c7 := token_r R6
    unfold tkV at c7
    have f0 := tk_f0
    go_wp2_with fail
    refine c7.mono ?_
    rintro e w7 ⟨rfl, b7⟩
    have k7 : Keep (B + 3) w6 w7 := Keep.ofBelow b7
    have X7 := X6.keep k7 (by omega)
    have R7 := R6.below b7
    have B7 : Below B w w7 := B6.trans (b7.mono (by omega))
    have S7 := S6.keepN k7 (by omega)
    clear c7 b7 k7 X6 R6 B6 S6
    by_cases hy : y.k = 0
    · have FIN : Hid (W = .ok x (y :: l)) := by show W = _; rw [HW.out]; unfold readF; rw [hr]; simp only [Rs.bind, hy, if_true]
      have hy2 : ((y.k : Int) == 0) = true := by rw [beq_iff_eq]; omega
      have t8 := set5k (.int .i64 x.k) (.int .i64 x.n) (stv x.nm) (.slice ao x.kids.len cap5) (.int .i64 x.a) X7.t
      have t9 := (heap_setCell_other _ ⟨B + 1, 0, none⟩ B (.int .i64 0) (show B ≠ B + 1 by omega)).trans t8
      have t10 := (heap_setCell_other _ ⟨B + 2, 0, none⟩ B (.int .i64 0) (show B ≠ B + 2 by omega)).trans t9
      have e8 := (heap_set5 w7 B (B + 1) (.int .i64 x.k) (.int .i64 x.n) (stv x.nm) (.slice ao x.kids.len cap5) (.int .i64 x.a) (by omega)).trans X7.e
      have e9 := (Blk.set (o := fun _ => 0) (i := 0) ⟨e8, rfl⟩ 0 (.int .i64 0)).1
      have e10 := (heap_setCell_other _ ⟨B + 2, 0, none⟩ (B + 1) (.int .i64 0) (show B + 1 ≠ B + 2 by omega)).trans e9
      have a8 := (heap_set5 w7 B (B + 2) (.int .i64 x.k) (.int .i64 x.n) (stv x.nm) (.slice ao x.kids.len cap5) (.int .i64 x.a) (by omega)).trans X7.a
      have a9 := (heap_setCell_other _ ⟨B + 1, 0, none⟩ (B + 2) (.int .i64 0) (show B + 2 ≠ B + 1 by omega)).trans a8
      have a10 := (Blk.set (o := fun _ => 0) (i := 0) ⟨a9, rfl⟩ 0 (.int .i64 0)).1
      have B8 := ((((((B7.setCell (p := ⟨B, 0, none⟩) (Nat.le_refl _) (.int .i64 x.k)).setCell (p := ⟨B, 1, none⟩) (Nat.le_refl _) (.int .i64 x.n)).setCell (p := ⟨B, 2, none⟩) (Nat.le_refl _) (stv x.nm)).setCell (p := ⟨B, 3, none⟩) (Nat.le_refl _) (.slice ao x.kids.len cap5)).setCell (p := ⟨B, 4, none⟩) (Nat.le_refl _) (.int .i64 x.a)).setCell (p := ⟨B + 1, 0, none⟩) (show B ≤ B + 1 by omega) (.int .i64 0)).setCell (p := ⟨B + 2, 0, none⟩) (show B ≤ B + 2 by omega) (.int .i64 0)
      have S8 := ((S7.set5 (b := B) (by omega) (.int .i64 x.k) (.int .i64 x.n) (stv x.nm) (.slice ao x.kids.len cap5) (.int .i64 x.a)).setN ⟨B + 1, 0, none⟩ (.int .i64 0) (show B + 1 < w4.heap.size by omega)).setN ⟨B + 2, 0, none⟩ (.int .i64 0) (show B + 2 < w4.heap.size by omega)
      obtain ⟨z0, z1, z2, z3, z4, zf⟩ := box5 X7.t
      obtain ⟨g0, gf⟩ := Blk.cells1 X7.e
      obtain ⟨k0, kf⟩ := Blk.cells1 X7.a
      have HU : Hid (∃ wz, wz = (World.setCell (World.setCell (World.setCell (World.setCell (World.setCell (World.setCell (World.setCell w7 ⟨B, 0, none⟩ (.int .i64 x.k)) ⟨B, 1, none⟩ (.int .i64 x.n)) ⟨B, 2, none⟩ (stv x.nm)) ⟨B, 3, none⟩ (.slice ao x.kids.len cap5)) ⟨B, 4, none⟩ (.int .i64 x.a)) ⟨B + 1, 0, none⟩ (.int .i64 0)) ⟨B + 2, 0, none⟩ (.int .i64 0)) ∧ wz.cell? ⟨B, 0, none⟩ = some (.int .i64 x.k) ∧ wz.cell? ⟨B, 1, none⟩ = some (.int .i64 x.n) ∧ wz.cell? ⟨B, 2, none⟩ = some (stv x.nm) ∧ wz.cell? ⟨B, 3, none⟩ = some (.slice ao x.kids.len cap5) ∧ wz.cell? ⟨B, 4, none⟩ = some (.int .i64 x.a) ∧ wz.cell? ⟨B + 1, 0, none⟩ = some (.int .i64 0) ∧ wz.cell? ⟨B + 2, 0, none⟩ = some (.int .i64 0) ∧ PostR w W (.returned (.tuple #[exV x ao cap5, .int .i64 0, .int .i64 0])) wz) := by
        obtain ⟨u0, u1, u2, u3, u4, -⟩ := box5 t10
        obtain ⟨p0, -⟩ := Blk.cells1 e10
        obtain ⟨q0, -⟩ := Blk.cells1 a10
        refine ⟨_, rfl, u0, u1, u2, u3, u4, p0, q0, ?_⟩
        rw [FIN.out]
        exact ⟨ao, cap5, rfl, by rw [← HBE.out]; exact S8.low (by omega), by rw [← HBE.out]; exact B8⟩
      clear t8 t9 t10 e8 e9 e10 a8 a9 a10 B8 S8 S7 B7 X7 R7 FIN HW hr hy
      go_wp2
      refine leaves_cons (f := 41) (args := #[.pointer (some ⟨B, 0, none⟩), .pointer (some ⟨B + 1, 0, none⟩), .pointer (some ⟨B + 2, 0, none⟩)]) (by simp) (by simp [go_sem]) ?_
      refine (catch_idle B _).mono ?_
      rintro e u' w9 ⟨rfl, rfl, hw9⟩
      obtain ⟨wz, hwz, u0, u1, u2, u3, u4, p0, q0, E⟩ := HU.out
      clear HU
      have hw : w9 = wz := hw9.trans hwz.symm
      clear hw9 hwz
      subst hw
      have q0' : w9.cell? ⟨B + 1 + 1, 0, none⟩ = some (.int .i64 0) := q0
      unfold exV at E
      simp [Leaves, settle, results, Tryz.results24, go_sem, u0, u1, u2, u3, u4, p0, q0, q0']
      exact E
    · have FIN : Hid (W = .bad 120 y.a) := by show W = _; rw [HW.out]; unfold readF; rw [hr]; simp only [Rs.bind, hy, if_false]
      have hy2 : ((y.k : Int) == 0) = false := by rw [beq_eq_false_iff_ne]; omega
      have c8 := refused_r 120 R7
      clear HW hr hy S7
      go_wp2_with fail
      refine c8.mono ?_
      rintro e w8 ⟨rfl, b8⟩
      have X8 := X7.keep (Keep.ofBelow (rb := B + 3) b8) (by omega)
      have B8 : Below B w w8 := B7.trans (b8.mono (by have := R7.lt; omega))
      clear c8 b8 X7 R7 B7
      go_wp2
      refine leaves_cons (f := 41) (args := #[.pointer (some ⟨B, 0, none⟩), .pointer (some ⟨B + 1, 0, none⟩), .pointer (some ⟨B + 2, 0, none⟩)]) (by simp) (by simp [go_sem]) ?_
      refine (catch_panics B 120 y.a [] w8 X8).mono ?_
      rintro e u' w9 ⟨rfl, rfl, X9, b9⟩
      have B9 := B8.trans b9
      obtain ⟨z0, z1, z2, z3, z4, -⟩ := box5 X9.t
      obtain ⟨g0, -⟩ := Blk.cells1 X9.e
      obtain ⟨a0, -⟩ := Blk.cells1 X9.a
      have E : PostR w W (.returned (.tuple #[exV noEx none 0, .int .i64 ((120 : Nat) : Int), .int .i64 (y.a : Nat)])) w9 := by rw [FIN.out]; exact ⟨rfl, by rw [← HBE.out]; exact B9⟩
      clear FIN
      have a0' : w9.cell? ⟨B + 1 + 1, 0, none⟩ = some (.int .i64 (y.a : Nat)) := a0
      unfold exV noEx at E
      simp only [Fs.len] at E
      simp [Leaves, settle, results, Tryz.results24, go_sem, z0, z1, z2, z3, z4, g0, a0, a0']
      exact E
end Go.Proofs.YtafnlhnenmpfoaaGreatDoor
