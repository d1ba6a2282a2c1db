/- The chapter's first example: the walk. -/
import Derived.Test.YtanahbkkgppfnaaAwm
import Derived.Test.YtanahbkkgppfnaaOf8
import Derived.Test.YtanahbkkgppfnaaNewW
namespace Go.Proofs.Ytanahbkkgppfnaa
open Go.ChangeShapes Go.WideShapes Go.ChangeAt Go.RowKit
set_option linter.unusedVariables false

set_option maxRecDepth 100000 in
theorem awake_w (w : World) (o : Nat → Nat) (L : Nat) (hL : 5 ≤ L) :
    Calls Try.prog 4 #[] w fun e w' => e = .returned (.bool true) ∧ ∃ o', Step (fun k => L - 5 ≤ k ∧ k < L + 100) w o w' o' := by
  have s0 := newStep (fun _ => False) w o (L - 1) (.cells #[.int .i64 1, .int .i64 0, .int .i64 1, .int .i64 0, .int .i64 2, .int .i64 1, .int .i64 2, .int .i64 0, .int .i64 3, .int .i64 2, .int .i64 0, .int .i64 0, .int .i64 4, .int .i64 2, .int .i64 3, .int .i64 0, .int .i64 5, .int .i64 3, .int .i64 4, .int .i64 0] 36)
  have V0 : VwE (w.alloc (.cells #[.int .i64 1, .int .i64 0, .int .i64 1, .int .i64 0, .int .i64 2, .int .i64 1, .int .i64 2, .int .i64 0, .int .i64 3, .int .i64 2, .int .i64 0, .int .i64 0, .int .i64 4, .int .i64 2, .int .i64 3, .int .i64 0, .int .i64 5, .int .i64 3, .int .i64 4, .int .i64 0] 36)) (newLab w o (L - 1)) (L - 1) (.slice (some ⟨w.heap.size, 0, none⟩) 5 5) es0 := by
    refine ⟨_, 5, rfl, Nat.le_refl _, by unfold maxLen; omega, fun _ => ⟨w.heap.size, 0, rfl, newLab_new (Nat.le_refl _), by simp, fun j hj => ?_⟩⟩
    have hB := heap_alloc_new w (.cells #[.int .i64 1, .int .i64 0, .int .i64 1, .int .i64 0, .int .i64 2, .int .i64 1, .int .i64 2, .int .i64 0, .int .i64 3, .int .i64 2, .int .i64 0, .int .i64 0, .int .i64 4, .int .i64 2, .int .i64 3, .int .i64 0, .int .i64 5, .int .i64 3, .int .i64 4, .int .i64 0] 36)
    have hc := fun i => cell_of_row _ w.heap.size i _ 36 (0, 0) hB
    have hj5 : j < 5 := hj
    match j, hj5 with
    | 0, _ => exact ⟨hc _, hc _, hc _, hc _⟩
    | 1, _ => exact ⟨hc _, hc _, hc _, hc _⟩
    | 2, _ => exact ⟨hc _, hc _, hc _, hc _⟩
    | 3, _ => exact ⟨hc _, hc _, hc _, hc _⟩
    | 4, _ => exact ⟨hc _, hc _, hc _, hc _⟩
  have hof := of_w newWalk_ok _ _ L 6 (L - 1) _ es0 V0 (by omega) (by omega) (by decide) (by omega) ok0
  clear V0
  go_enter Try.func4, Try.ntmps4
  go_wp2_with fail
  refine hof.mono ?_
  rintro e w1 ⟨q, o1, B, bl, rfl, R1, A1, s1⟩
  obtain ⟨a1, a2, a3⟩ := ans0 A1
  subst a1
  have s01 : Step (fun k => L - 5 ≤ k ∧ k < L + 100) w o w1 o1 := (s0.mono fun _ h => h.elim).trans (s1.mono fun k hk => ⟨by have := hk.1; omega, hk.2⟩)
  have hbr := bridges_w w1 o1 L q 6 (L - 2) [4, 5] bl R1 (by decide)
  clear hof s0 s1 A1
  go_wp2_with fail
  refine hbr.mono ?_
  rintro e w2 ⟨v2, o2, rfl, r2, s2⟩
  have R2 := R1.step s2 (fun k hk x => by have := hk.1; omega)
  have V2 := r2.vw
  have n2 := newStep (fun _ => False) w2 o2 (L - 3) (.cells #[.int .i64 4, .int .i64 5] 3)
  have L2 : Vw (w2.alloc (.cells #[.int .i64 4, .int .i64 5] 3)) (newLab w2 o2 (L - 3)) (L - 3) (.slice (some ⟨w2.heap.size, 0, none⟩) 2 2) [4, 5] := by
    have : Row (w2.alloc (.cells #[.int .i64 4, .int .i64 5] 3)) (newLab w2 o2 (L - 3)) (L - 3) 3 1 (.slice (some ⟨w2.heap.size, 0, none⟩) 2 2) 2 (intsL [4, 5]) := Row.made (X := #[.int .i64 4, .int .i64 5]) rfl rfl (by unfold maxLen; omega)
    exact this.vw
  have hsm := same_w _ _ _ (L - 2) (L - 3) v2 _ [4, 5] [4, 5] (V2.step n2 (fun h => h)) L2 (by decide) (by decide)
  have R3 := R2.step n2 (fun _ _ h => h)
  have s02 : Step (fun k => L - 5 ≤ k ∧ k < L + 100) w o _ _ := (s01.trans (s2.mono fun k hk => by omega)).trans (n2.mono fun _ h => h.elim)
  obtain ⟨av, cv, rfl⟩ := r2.form
  clear hbr r2 V2 L2 R1 s01 s2
  go_wp2_with fail
  refine hsm.mono ?_
  rintro e w3 ⟨rfl, s3⟩
  have R4 := R3.step s3 (fun _ _ h => h)
  have hblk := block_w w3 _ L q 6 1 [4, 5] bl R4 (by omega) (by omega)
  have hbls := blocks_w w3 _ L q 6 [4, 5] bl R4 (by omega) (by omega)
  rw [a2] at hblk
  rw [a3] at hbls
  have s03 : ∃ o', Step (fun k => L - 5 ≤ k ∧ k < L + 100) w o w3 o' := ⟨_, s02.trans (s3.mono fun _ h => h.elim)⟩
  clear R3 R4 s3 s02 n2 hsm R2
  go_wp2_with fail
  refine hblk.mono ?_
  rintro e w4 ⟨rfl, rfl⟩
  clear hblk
  go_wp2_with fail
  refine hbls.mono ?_
  rintro e w5 ⟨rfl, rfl⟩
  clear hbls
  go_wp2
  go_ret
  exact ⟨rfl, s03⟩
end Go.Proofs.Ytanahbkkgppfnaa
