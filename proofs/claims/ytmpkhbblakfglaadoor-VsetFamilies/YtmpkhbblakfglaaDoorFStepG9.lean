/- VsetFamilies: a step that makes two calls and holds their answers against each other. -/
import Derived.Test.YtmpkhbblakfglaaDoorFKeep9
import Derived.Test.YtmpkhbblakfglaaDoorLaw9
namespace Go.Proofs.YtmpkhbblakfglaaDoor
open Go.ChangeShapes Go.WideShapes Go.ChangeAt Go.RowKit Go.Maps
set_option linter.unusedVariables false
set_option linter.unusedSimpArgs false

/-- The labels of a side. -/
def SB (B : Nat) : Nat → Prop := fun k => B ≤ k ∧ k < B + 300000
/-- A state of a side that stays while other labels are turned. -/
structure Sta9 (B ps pf px : Nat) (Q : World → (Nat → Nat) → Prop) : Prop where
  st : ∀ {I : Nat → Prop} {w w' : World} {o o' : Nat → Nat}, Q w o → Step I w o w' o' → (∀ k, SB B k → ¬ I k) → ¬ I 0 → Q w' o'
  c0 : ∀ {w : World} {o : Nat → Nat}, Q w o → w.cell? ⟨ps, 0, none⟩ = some (.pointer (some ⟨pf, 0, none⟩))
  c1 : ∀ {w : World} {o : Nat → Nat}, Q w o → w.cell? ⟨ps, 1, none⟩ = some (.pointer (some ⟨px, 0, none⟩))
def StO (w : World) (o : Nat → Nat) (B : Nat) (Q : World → (Nat → Nat) → Prop) (e : Ending) (w' : World) : Prop := e = .returned (.bool true) ∧ ∃ o', Q w' o' ∧ Step (fun k => SB B k ∨ (90 ≤ k ∧ k < 300)) w o w' o'

set_option maxRecDepth 100000 in
set_option maxHeartbeats 8000000 in
theorem step_1g (w : World) (o : Nat → Nat) (B ps pf px : Nat) (hB : 1000 ≤ B) (Q0 Q1 Q2 : World → (Nat → Nat) → Prop) (sta0 : Sta9 B ps pf px Q0) (sta1 : Sta9 B ps pf px Q1) (sta2 : Sta9 B ps pf px Q2) (q0 : Q0 w o) (n : Int) (s : ByteArray) (ao : Option Addr) (len cap : Nat) (ot : Bool) (r : Int)
    (hcal1 : ∀ wx ox, Q0 wx ox → Calls Tryd.prog 11 #[.pointer (some ⟨pf, 0, none⟩), .string s] wx fun e w' => e = .returned (.int .i64 r) ∧ ∃ o', Q1 w' o' ∧ Step (SB B) wx ox w' o')
    (hcal2 : ∀ wx ox, Q1 wx ox → Calls Tryd.prog 15 #[.pointer (some ⟨px, 0, none⟩), .string s] wx fun e w' => e = .returned (.int .i64 r) ∧ ∃ o', Q2 w' o' ∧ Step (SB B) wx ox w' o') :
    Calls Tryd.prog 6 #[.pointer (some ⟨ps, 0, none⟩), .agg #[.int .i64 1, .int .i64 n, .string s, .slice ao len cap, .bool ot]] w fun e w' => StO w o B Q2 e w' := by
  have sB := newStep (fun _ => False) w o 95 (.cells #[.int .i64 1, .int .i64 n, .string s, .slice ao len cap, .bool ot] 37)
  have Q1' := sta0.st q0 sB (fun _ _ => id) id
  have S1 : Step (fun k => SB B k ∨ (90 ≤ k ∧ k < 300)) w o _ _ := sB.mono (fun _ h => h.elim)
  have e3 : (w.alloc (.cells #[.int .i64 1, .int .i64 n, .string s, .slice ao len cap, .bool ot] 37)).heap[w.heap.size]? = some (.cells #[.int .i64 1, .int .i64 n, .string s, .slice ao len cap, .bool ot] 37 (0, 0)) := heap_alloc_new w _
  have lb3 : newLab w o 95 w.heap.size = 95 := newLab_new (Nat.le_refl _)
  have hSB : ¬ SB B 95 := by unfold SB; omega
  clear q0 sB
  go_enter Tryd.func6, Tryd.ntmps6
  go_upto_region 1 with fail
  obtain ⟨b3, hb3⟩ : ∃ b3, b3 = w.heap.size := ⟨_, rfl⟩
  rw [← hb3] at e3 lb3 ⊢
  generalize newLab w o 95 = o1 at Q1' S1 lb3
  generalize w.alloc (.cells #[.int .i64 1, .int .i64 n, .string s, .slice ao len cap, .bool ot] 37) = w1 at Q1' S1 e3 ⊢
  clear hb3
  have d0 : w1.cell? ⟨b3, 0, none⟩ = some (.int .i64 1) := by simp [cell_of_row w1 b3 _ _ _ (0, 0) e3]
  have x3 : w1.cell? ⟨b3, 2, none⟩ = some (.string s) := by simp [cell_of_row w1 b3 _ _ _ (0, 0) e3]
  have hltb : b3 < w1.heap.size := lt_of_block e3
  have c0 := sta0.c0 Q1'
  have c1 := sta0.c1 Q1'
  have Q1d := sta0.st Q1' ((Step.refl (fun _ => False) w1 o1).drew) (fun _ _ => id) id
  clear e3
  go_upto_region 3 with fail
  clear d0
  refine wp_region_noPanic ?_
  refine wp_region_held_drew (S := fun wx => wx.cell? ⟨ps, 0, none⟩ = some (.pointer (some ⟨pf, 0, none⟩)) ∧ wx.cell? ⟨ps, 1, none⟩ = some (.pointer (some ⟨px, 0, none⟩)) ∧ wx.cell? ⟨b3, 2, none⟩ = some (.string s)) (by kernel_rfl) ⟨c0, c1, x3⟩ (fun hHeld => ?_)
  refine wpAnyH_take (i := 0) (v := ?v1) rfl (by kernel_rfl) (by kernel_rfl) (by kernel_rfl) (fun _ _ _ h => h) (Or.inl ⟨by rfl, ?hy1⟩) (by assumption) ?rest1
  case hy1 => (intro w hSw; (try dsimp only at hSw); go_simp; all_goals (with_reducible rfl))
  simp only [Act.put, List.getElem_toArray, List.getElem_cons_zero, List.getElem_cons_succ, List.setIfInBounds_toArray, List.set_cons_zero, List.set_cons_succ]
  refine wpAnyH_take (i := 1) (v := ?v2) rfl (by kernel_rfl) (by kernel_rfl) (by kernel_rfl) (fun _ _ _ h => h) (Or.inl ⟨by rfl, ?hy2⟩) (by assumption) ?rest2
  case hy2 => (intro w hSw; (try dsimp only at hSw); go_simp; all_goals (with_reducible rfl))
  simp only [Act.put, List.getElem_toArray, List.getElem_cons_zero, List.getElem_cons_succ, List.setIfInBounds_toArray, List.set_cons_zero, List.set_cons_succ]
  refine wpAnyH_take (i := 2) (v := ?v3) rfl (by kernel_rfl) (by kernel_rfl) (by kernel_rfl) (fun _ _ _ h => h) (Or.inl ⟨by rfl, ?hy3⟩) (by assumption) ?rest3
  case hy3 => (intro w hSw; (try dsimp only at hSw); go_simp; all_goals (with_reducible rfl))
  simp only [Act.put, List.getElem_toArray, List.getElem_cons_zero, List.getElem_cons_succ, List.setIfInBounds_toArray, List.set_cons_zero, List.set_cons_succ]
  refine wpAnyH_take (i := 3) (v := ?v4) rfl (by kernel_rfl) (by kernel_rfl) (by kernel_rfl) (fun _ _ _ h => h) (Or.inl ⟨by rfl, ?hy4⟩) (by assumption) ?rest4
  case hy4 => (intro w hSw; (try dsimp only at hSw); have k3 := hSw.1; go_simp; all_goals (with_reducible rfl))
  simp only [Act.put, List.getElem_toArray, List.getElem_cons_zero, List.getElem_cons_succ, List.setIfInBounds_toArray, List.set_cons_zero, List.set_cons_succ]
  refine wpAnyH_take (i := 4) (v := ?v5) rfl (by kernel_rfl) (by kernel_rfl) (by kernel_rfl) (fun _ _ _ h => h) (Or.inl ⟨by rfl, ?hy5⟩) (by assumption) ?rest5
  case hy5 => (intro w hSw; (try dsimp only at hSw); go_simp; all_goals (with_reducible rfl))
  simp only [Act.put, List.getElem_toArray, List.getElem_cons_zero, List.getElem_cons_succ, List.setIfInBounds_toArray, List.set_cons_zero, List.set_cons_succ]
  refine wpAnyH_take (i := 5) (v := ?v6) rfl (by kernel_rfl) (by kernel_rfl) (by kernel_rfl) (fun _ _ _ h => h) (Or.inl ⟨by rfl, ?hy6⟩) (by assumption) ?rest6
  case hy6 => (intro w hSw; (try dsimp only at hSw); have k5 := hSw.2.2; go_simp; all_goals (with_reducible rfl))
  simp only [Act.put, List.getElem_toArray, List.getElem_cons_zero, List.getElem_cons_succ, List.setIfInBounds_toArray, List.set_cons_zero, List.set_cons_succ]
  refine wpAnyH_take (i := 7) (v := ?v7) rfl (by kernel_rfl) (by kernel_rfl) (by kernel_rfl) (fun _ _ _ h => h) (Or.inl ⟨by rfl, ?hy7⟩) (by assumption) ?rest7
  case hy7 => (intro w hSw; (try dsimp only at hSw); go_simp; all_goals (with_reducible rfl))
  simp only [Act.put, List.getElem_toArray, List.getElem_cons_zero, List.getElem_cons_succ, List.setIfInBounds_toArray, List.set_cons_zero, List.set_cons_succ]
  refine wpAnyH_take (i := 8) (v := ?v8) rfl (by kernel_rfl) (by kernel_rfl) (by kernel_rfl) (fun _ _ _ h => h) (Or.inl ⟨by rfl, ?hy8⟩) (by assumption) ?rest8
  case hy8 => (intro w hSw; (try dsimp only at hSw); go_simp; all_goals (with_reducible rfl))
  simp only [Act.put, List.getElem_toArray, List.getElem_cons_zero, List.getElem_cons_succ, List.setIfInBounds_toArray, List.set_cons_zero, List.set_cons_succ]
  refine wpAnyH_take (i := 9) (v := ?v9) rfl (by kernel_rfl) (by kernel_rfl) (by kernel_rfl) (fun _ _ _ h => h) (Or.inl ⟨by rfl, ?hy9⟩) (by assumption) ?rest9
  case hy9 => (intro w hSw; (try dsimp only at hSw); go_simp; all_goals (with_reducible rfl))
  simp only [Act.put, List.getElem_toArray, List.getElem_cons_zero, List.getElem_cons_succ, List.setIfInBounds_toArray, List.set_cons_zero, List.set_cons_succ]
  refine wpAnyH_take (i := 10) (v := ?v10) rfl (by kernel_rfl) (by kernel_rfl) (by kernel_rfl) (fun _ _ _ h => h) (Or.inl ⟨by rfl, ?hy10⟩) (by assumption) ?rest10
  case hy10 => (intro w hSw; (try dsimp only at hSw); have k3 := hSw.2.1; go_simp; all_goals (with_reducible rfl))
  simp only [Act.put, List.getElem_toArray, List.getElem_cons_zero, List.getElem_cons_succ, List.setIfInBounds_toArray, List.set_cons_zero, List.set_cons_succ]
  refine wpAnyH_take (i := 11) (v := ?v11) rfl (by kernel_rfl) (by kernel_rfl) (by kernel_rfl) (fun _ _ _ h => h) (Or.inl ⟨by rfl, ?hy11⟩) (by assumption) ?rest11
  case hy11 => (intro w hSw; (try dsimp only at hSw); go_simp; all_goals (with_reducible rfl))
  simp only [Act.put, List.getElem_toArray, List.getElem_cons_zero, List.getElem_cons_succ, List.setIfInBounds_toArray, List.set_cons_zero, List.set_cons_succ]
  refine wpAnyH_take (i := 12) (v := ?v12) rfl (by kernel_rfl) (by kernel_rfl) (by kernel_rfl) (fun _ _ _ h => h) (Or.inl ⟨by rfl, ?hy12⟩) (by assumption) ?rest12
  case hy12 => (intro w hSw; (try dsimp only at hSw); have k5 := hSw.2.2; go_simp; all_goals (with_reducible rfl))
  simp only [Act.put, List.getElem_toArray, List.getElem_cons_zero, List.getElem_cons_succ, List.setIfInBounds_toArray, List.set_cons_zero, List.set_cons_succ]
  refine wpAnyH_ready (rs := [6]) (by kernel_rfl) (by simp) ?_
  refine AllReadyH.cons rfl (fun K hK => ?_) AllReadyH.nil
  go_simp
  refine (hcal1 _ o1 Q1d).mono ?_
  rintro e w4 ⟨rfl, o4, q4, s4⟩
  have y4 := (s4.cellAt (p := ⟨b3, 2, none⟩) hltb (by rw [lb3]; exact hSB)).trans x3
  have k4 := sta1.c0 q4
  have k4b := sta1.c1 q4
  dsimp only
  refine hK.out _ _ ⟨k4, k4b, y4⟩ (fun hHeld => ?_)
  clear hK K
  try simp only [Act.put, List.getElem_toArray, List.getElem_cons_zero, List.getElem_cons_succ, List.setIfInBounds_toArray, List.set_cons_zero, List.set_cons_succ]
  refine wpAnyH_ready (rs := [13]) (by kernel_rfl) (by simp) ?_
  refine AllReadyH.cons rfl (fun K hK => ?_) AllReadyH.nil
  go_simp
  refine (hcal2 _ o4 q4).mono ?_
  rintro e w5 ⟨rfl, o5, q5, s5⟩
  have y5 := (s5.cellAt (p := ⟨b3, 2, none⟩) (Nat.lt_of_lt_of_le hltb s4.size) (by show ¬ SB B (o4 b3); rw [s4.lab b3 hltb, lb3]; exact hSB)).trans y4
  have k5a := sta2.c0 q5
  have k5b := sta2.c1 q5
  dsimp only
  refine hK.out _ _ ⟨k5a, k5b, y5⟩ (fun hHeld => ?_)
  clear hK K
  try simp only [Act.put, List.getElem_toArray, List.getElem_cons_zero, List.getElem_cons_succ, List.setIfInBounds_toArray, List.set_cons_zero, List.set_cons_succ]
  refine wpAnyH_take (i := 14) (v := ?v13) rfl (by kernel_rfl) (by kernel_rfl) (by kernel_rfl) (fun _ _ _ h => h) (Or.inl ⟨by rfl, ?hy13⟩) (by assumption) ?rest13
  case hy13 => (intro w hSw; (try dsimp only at hSw); go_simp; all_goals (with_reducible rfl))
  simp only [Act.put, List.getElem_toArray, List.getElem_cons_zero, List.getElem_cons_succ, List.setIfInBounds_toArray, List.set_cons_zero, List.set_cons_succ]
  refine wpAnyH_take (i := 15) (v := ?v14) rfl (by kernel_rfl) (by kernel_rfl) (by kernel_rfl) (fun _ _ _ h => h) (Or.inl ⟨by rfl, ?hy14⟩) (by assumption) ?rest14
  case hy14 => (intro w hSw; (try dsimp only at hSw); go_simp; all_goals (with_reducible rfl))
  simp only [Act.put, List.getElem_toArray, List.getElem_cons_zero, List.getElem_cons_succ, List.setIfInBounds_toArray, List.set_cons_zero, List.set_cons_succ]
  refine wpAnyH_done (by kernel_rfl) ?_ _
  refine NoPanic.normal ?_
  have HR : Hid (StO w o B Q2 (.returned (.bool true)) w5) := ⟨rfl, o5, q5, (S1.drew.trans (s4.mono fun _ h => Or.inl h)).trans (s5.mono fun _ h => Or.inl h)⟩
  go_wp2
  go_ret
  first | exact HR.out | (simp; exact HR.out)
set_option maxRecDepth 100000 in
set_option maxHeartbeats 8000000 in
theorem step_2g (w : World) (o : Nat → Nat) (B ps pf px : Nat) (hB : 1000 ≤ B) (Q0 Q1 Q2 : World → (Nat → Nat) → Prop) (sta0 : Sta9 B ps pf px Q0) (sta1 : Sta9 B ps pf px Q1) (sta2 : Sta9 B ps pf px Q2) (q0 : Q0 w o) (n : Int) (s : ByteArray) (ao : Option Addr) (len cap : Nat) (ot : Bool) (r : Int)
    (hcal1 : ∀ wx ox, Q0 wx ox → Calls Tryd.prog 16 #[.pointer (some ⟨pf, 0, none⟩), .string s] wx fun e w' => e = .returned (.int .i64 r) ∧ ∃ o', Q1 w' o' ∧ Step (SB B) wx ox w' o')
    (hcal2 : ∀ wx ox, Q1 wx ox → Calls Tryd.prog 17 #[.pointer (some ⟨px, 0, none⟩), .string s] wx fun e w' => e = .returned (.int .i64 r) ∧ ∃ o', Q2 w' o' ∧ Step (SB B) wx ox w' o') :
    Calls Tryd.prog 6 #[.pointer (some ⟨ps, 0, none⟩), .agg #[.int .i64 2, .int .i64 n, .string s, .slice ao len cap, .bool ot]] w fun e w' => StO w o B Q2 e w' := by
  have sB := newStep (fun _ => False) w o 95 (.cells #[.int .i64 2, .int .i64 n, .string s, .slice ao len cap, .bool ot] 37)
  have Q1' := sta0.st q0 sB (fun _ _ => id) id
  have S1 : Step (fun k => SB B k ∨ (90 ≤ k ∧ k < 300)) w o _ _ := sB.mono (fun _ h => h.elim)
  have e3 : (w.alloc (.cells #[.int .i64 2, .int .i64 n, .string s, .slice ao len cap, .bool ot] 37)).heap[w.heap.size]? = some (.cells #[.int .i64 2, .int .i64 n, .string s, .slice ao len cap, .bool ot] 37 (0, 0)) := heap_alloc_new w _
  have lb3 : newLab w o 95 w.heap.size = 95 := newLab_new (Nat.le_refl _)
  have hSB : ¬ SB B 95 := by unfold SB; omega
  clear q0 sB
  go_enter Tryd.func6, Tryd.ntmps6
  go_upto_region 1 with fail
  obtain ⟨b3, hb3⟩ : ∃ b3, b3 = w.heap.size := ⟨_, rfl⟩
  rw [← hb3] at e3 lb3 ⊢
  generalize newLab w o 95 = o1 at Q1' S1 lb3
  generalize w.alloc (.cells #[.int .i64 2, .int .i64 n, .string s, .slice ao len cap, .bool ot] 37) = w1 at Q1' S1 e3 ⊢
  clear hb3
  have d0 : w1.cell? ⟨b3, 0, none⟩ = some (.int .i64 2) := by simp [cell_of_row w1 b3 _ _ _ (0, 0) e3]
  have x3 : w1.cell? ⟨b3, 2, none⟩ = some (.string s) := by simp [cell_of_row w1 b3 _ _ _ (0, 0) e3]
  have hltb : b3 < w1.heap.size := lt_of_block e3
  have c0 := sta0.c0 Q1'
  have c1 := sta0.c1 Q1'
  have Q1d := sta0.st Q1' ((Step.refl (fun _ => False) w1 o1).drew) (fun _ _ => id) id
  clear e3
  go_upto_region 5 with fail
  clear d0
  refine wp_region_noPanic ?_
  refine wp_region_held_drew (S := fun wx => wx.cell? ⟨ps, 0, none⟩ = some (.pointer (some ⟨pf, 0, none⟩)) ∧ wx.cell? ⟨ps, 1, none⟩ = some (.pointer (some ⟨px, 0, none⟩)) ∧ wx.cell? ⟨b3, 2, none⟩ = some (.string s)) (by kernel_rfl) ⟨c0, c1, x3⟩ (fun hHeld => ?_)
  refine wpAnyH_take (i := 0) (v := ?v15) rfl (by kernel_rfl) (by kernel_rfl) (by kernel_rfl) (fun _ _ _ h => h) (Or.inl ⟨by rfl, ?hy15⟩) (by assumption) ?rest15
  case hy15 => (intro w hSw; (try dsimp only at hSw); go_simp; all_goals (with_reducible rfl))
  simp only [Act.put, List.getElem_toArray, List.getElem_cons_zero, List.getElem_cons_succ, List.setIfInBounds_toArray, List.set_cons_zero, List.set_cons_succ]
  refine wpAnyH_take (i := 1) (v := ?v16) rfl (by kernel_rfl) (by kernel_rfl) (by kernel_rfl) (fun _ _ _ h => h) (Or.inl ⟨by rfl, ?hy16⟩) (by assumption) ?rest16
  case hy16 => (intro w hSw; (try dsimp only at hSw); go_simp; all_goals (with_reducible rfl))
  simp only [Act.put, List.getElem_toArray, List.getElem_cons_zero, List.getElem_cons_succ, List.setIfInBounds_toArray, List.set_cons_zero, List.set_cons_succ]
  refine wpAnyH_take (i := 2) (v := ?v17) rfl (by kernel_rfl) (by kernel_rfl) (by kernel_rfl) (fun _ _ _ h => h) (Or.inl ⟨by rfl, ?hy17⟩) (by assumption) ?rest17
  case hy17 => (intro w hSw; (try dsimp only at hSw); go_simp; all_goals (with_reducible rfl))
  simp only [Act.put, List.getElem_toArray, List.getElem_cons_zero, List.getElem_cons_succ, List.setIfInBounds_toArray, List.set_cons_zero, List.set_cons_succ]
  refine wpAnyH_take (i := 3) (v := ?v18) rfl (by kernel_rfl) (by kernel_rfl) (by kernel_rfl) (fun _ _ _ h => h) (Or.inl ⟨by rfl, ?hy18⟩) (by assumption) ?rest18
  case hy18 => (intro w hSw; (try dsimp only at hSw); have k3 := hSw.1; go_simp; all_goals (with_reducible rfl))
  simp only [Act.put, List.getElem_toArray, List.getElem_cons_zero, List.getElem_cons_succ, List.setIfInBounds_toArray, List.set_cons_zero, List.set_cons_succ]
  refine wpAnyH_take (i := 4) (v := ?v19) rfl (by kernel_rfl) (by kernel_rfl) (by kernel_rfl) (fun _ _ _ h => h) (Or.inl ⟨by rfl, ?hy19⟩) (by assumption) ?rest19
  case hy19 => (intro w hSw; (try dsimp only at hSw); go_simp; all_goals (with_reducible rfl))
  simp only [Act.put, List.getElem_toArray, List.getElem_cons_zero, List.getElem_cons_succ, List.setIfInBounds_toArray, List.set_cons_zero, List.set_cons_succ]
  refine wpAnyH_take (i := 5) (v := ?v20) rfl (by kernel_rfl) (by kernel_rfl) (by kernel_rfl) (fun _ _ _ h => h) (Or.inl ⟨by rfl, ?hy20⟩) (by assumption) ?rest20
  case hy20 => (intro w hSw; (try dsimp only at hSw); have k5 := hSw.2.2; go_simp; all_goals (with_reducible rfl))
  simp only [Act.put, List.getElem_toArray, List.getElem_cons_zero, List.getElem_cons_succ, List.setIfInBounds_toArray, List.set_cons_zero, List.set_cons_succ]
  refine wpAnyH_take (i := 7) (v := ?v21) rfl (by kernel_rfl) (by kernel_rfl) (by kernel_rfl) (fun _ _ _ h => h) (Or.inl ⟨by rfl, ?hy21⟩) (by assumption) ?rest21
  case hy21 => (intro w hSw; (try dsimp only at hSw); go_simp; all_goals (with_reducible rfl))
  simp only [Act.put, List.getElem_toArray, List.getElem_cons_zero, List.getElem_cons_succ, List.setIfInBounds_toArray, List.set_cons_zero, List.set_cons_succ]
  refine wpAnyH_take (i := 8) (v := ?v22) rfl (by kernel_rfl) (by kernel_rfl) (by kernel_rfl) (fun _ _ _ h => h) (Or.inl ⟨by rfl, ?hy22⟩) (by assumption) ?rest22
  case hy22 => (intro w hSw; (try dsimp only at hSw); go_simp; all_goals (with_reducible rfl))
  simp only [Act.put, List.getElem_toArray, List.getElem_cons_zero, List.getElem_cons_succ, List.setIfInBounds_toArray, List.set_cons_zero, List.set_cons_succ]
  refine wpAnyH_take (i := 9) (v := ?v23) rfl (by kernel_rfl) (by kernel_rfl) (by kernel_rfl) (fun _ _ _ h => h) (Or.inl ⟨by rfl, ?hy23⟩) (by assumption) ?rest23
  case hy23 => (intro w hSw; (try dsimp only at hSw); go_simp; all_goals (with_reducible rfl))
  simp only [Act.put, List.getElem_toArray, List.getElem_cons_zero, List.getElem_cons_succ, List.setIfInBounds_toArray, List.set_cons_zero, List.set_cons_succ]
  refine wpAnyH_take (i := 10) (v := ?v24) rfl (by kernel_rfl) (by kernel_rfl) (by kernel_rfl) (fun _ _ _ h => h) (Or.inl ⟨by rfl, ?hy24⟩) (by assumption) ?rest24
  case hy24 => (intro w hSw; (try dsimp only at hSw); have k3 := hSw.2.1; go_simp; all_goals (with_reducible rfl))
  simp only [Act.put, List.getElem_toArray, List.getElem_cons_zero, List.getElem_cons_succ, List.setIfInBounds_toArray, List.set_cons_zero, List.set_cons_succ]
  refine wpAnyH_take (i := 11) (v := ?v25) rfl (by kernel_rfl) (by kernel_rfl) (by kernel_rfl) (fun _ _ _ h => h) (Or.inl ⟨by rfl, ?hy25⟩) (by assumption) ?rest25
  case hy25 => (intro w hSw; (try dsimp only at hSw); go_simp; all_goals (with_reducible rfl))
  simp only [Act.put, List.getElem_toArray, List.getElem_cons_zero, List.getElem_cons_succ, List.setIfInBounds_toArray, List.set_cons_zero, List.set_cons_succ]
  refine wpAnyH_take (i := 12) (v := ?v26) rfl (by kernel_rfl) (by kernel_rfl) (by kernel_rfl) (fun _ _ _ h => h) (Or.inl ⟨by rfl, ?hy26⟩) (by assumption) ?rest26
  case hy26 => (intro w hSw; (try dsimp only at hSw); have k5 := hSw.2.2; go_simp; all_goals (with_reducible rfl))
  simp only [Act.put, List.getElem_toArray, List.getElem_cons_zero, List.getElem_cons_succ, List.setIfInBounds_toArray, List.set_cons_zero, List.set_cons_succ]
  refine wpAnyH_ready (rs := [6]) (by kernel_rfl) (by simp) ?_
  refine AllReadyH.cons rfl (fun K hK => ?_) AllReadyH.nil
  go_simp
  refine (hcal1 _ o1 Q1d).mono ?_
  rintro e w4 ⟨rfl, o4, q4, s4⟩
  have y4 := (s4.cellAt (p := ⟨b3, 2, none⟩) hltb (by rw [lb3]; exact hSB)).trans x3
  have k4 := sta1.c0 q4
  have k4b := sta1.c1 q4
  dsimp only
  refine hK.out _ _ ⟨k4, k4b, y4⟩ (fun hHeld => ?_)
  clear hK K
  try simp only [Act.put, List.getElem_toArray, List.getElem_cons_zero, List.getElem_cons_succ, List.setIfInBounds_toArray, List.set_cons_zero, List.set_cons_succ]
  refine wpAnyH_ready (rs := [13]) (by kernel_rfl) (by simp) ?_
  refine AllReadyH.cons rfl (fun K hK => ?_) AllReadyH.nil
  go_simp
  refine (hcal2 _ o4 q4).mono ?_
  rintro e w5 ⟨rfl, o5, q5, s5⟩
  have y5 := (s5.cellAt (p := ⟨b3, 2, none⟩) (Nat.lt_of_lt_of_le hltb s4.size) (by show ¬ SB B (o4 b3); rw [s4.lab b3 hltb, lb3]; exact hSB)).trans y4
  have k5a := sta2.c0 q5
  have k5b := sta2.c1 q5
  dsimp only
  refine hK.out _ _ ⟨k5a, k5b, y5⟩ (fun hHeld => ?_)
  clear hK K
  try simp only [Act.put, List.getElem_toArray, List.getElem_cons_zero, List.getElem_cons_succ, List.setIfInBounds_toArray, List.set_cons_zero, List.set_cons_succ]
  refine wpAnyH_take (i := 14) (v := ?v27) rfl (by kernel_rfl) (by kernel_rfl) (by kernel_rfl) (fun _ _ _ h => h) (Or.inl ⟨by rfl, ?hy27⟩) (by assumption) ?rest27
  case hy27 => (intro w hSw; (try dsimp only at hSw); go_simp; all_goals (with_reducible rfl))
  simp only [Act.put, List.getElem_toArray, List.getElem_cons_zero, List.getElem_cons_succ, List.setIfInBounds_toArray, List.set_cons_zero, List.set_cons_succ]
  refine wpAnyH_take (i := 15) (v := ?v28) rfl (by kernel_rfl) (by kernel_rfl) (by kernel_rfl) (fun _ _ _ h => h) (Or.inl ⟨by rfl, ?hy28⟩) (by assumption) ?rest28
  case hy28 => (intro w hSw; (try dsimp only at hSw); go_simp; all_goals (with_reducible rfl))
  simp only [Act.put, List.getElem_toArray, List.getElem_cons_zero, List.getElem_cons_succ, List.setIfInBounds_toArray, List.set_cons_zero, List.set_cons_succ]
  refine wpAnyH_done (by kernel_rfl) ?_ _
  refine NoPanic.normal ?_
  have HR : Hid (StO w o B Q2 (.returned (.bool true)) w5) := ⟨rfl, o5, q5, (S1.drew.trans (s4.mono fun _ h => Or.inl h)).trans (s5.mono fun _ h => Or.inl h)⟩
  go_wp2
  go_ret
  first | exact HR.out | (simp; exact HR.out)
set_option maxRecDepth 100000 in
set_option maxHeartbeats 8000000 in
theorem step_5g (w : World) (o : Nat → Nat) (B ps pf px : Nat) (hB : 1000 ≤ B) (Q0 Q1 Q2 : World → (Nat → Nat) → Prop) (sta0 : Sta9 B ps pf px Q0) (sta1 : Sta9 B ps pf px Q1) (sta2 : Sta9 B ps pf px Q2) (q0 : Q0 w o) (n : Int) (s : ByteArray) (ao : Option Addr) (len cap : Nat) (ot : Bool) (r : Int)
    (hcal1 : ∀ wx ox, Q0 wx ox → Calls Tryd.prog 23 #[.pointer (some ⟨pf, 0, none⟩), .int .i64 n] wx fun e w' => e = .returned (.int .i64 r) ∧ ∃ o', Q1 w' o' ∧ Step (SB B) wx ox w' o')
    (hcal2 : ∀ wx ox, Q1 wx ox → Calls Tryd.prog 24 #[.pointer (some ⟨px, 0, none⟩), .int .i64 n] wx fun e w' => e = .returned (.int .i64 r) ∧ ∃ o', Q2 w' o' ∧ Step (SB B) wx ox w' o') :
    Calls Tryd.prog 6 #[.pointer (some ⟨ps, 0, none⟩), .agg #[.int .i64 5, .int .i64 n, .string s, .slice ao len cap, .bool ot]] w fun e w' => StO w o B Q2 e w' := by
  have sB := newStep (fun _ => False) w o 95 (.cells #[.int .i64 5, .int .i64 n, .string s, .slice ao len cap, .bool ot] 37)
  have Q1' := sta0.st q0 sB (fun _ _ => id) id
  have S1 : Step (fun k => SB B k ∨ (90 ≤ k ∧ k < 300)) w o _ _ := sB.mono (fun _ h => h.elim)
  have e3 : (w.alloc (.cells #[.int .i64 5, .int .i64 n, .string s, .slice ao len cap, .bool ot] 37)).heap[w.heap.size]? = some (.cells #[.int .i64 5, .int .i64 n, .string s, .slice ao len cap, .bool ot] 37 (0, 0)) := heap_alloc_new w _
  have lb3 : newLab w o 95 w.heap.size = 95 := newLab_new (Nat.le_refl _)
  have hSB : ¬ SB B 95 := by unfold SB; omega
  clear q0 sB
  go_enter Tryd.func6, Tryd.ntmps6
  go_upto_region 1 with fail
  obtain ⟨b3, hb3⟩ : ∃ b3, b3 = w.heap.size := ⟨_, rfl⟩
  rw [← hb3] at e3 lb3 ⊢
  generalize newLab w o 95 = o1 at Q1' S1 lb3
  generalize w.alloc (.cells #[.int .i64 5, .int .i64 n, .string s, .slice ao len cap, .bool ot] 37) = w1 at Q1' S1 e3 ⊢
  clear hb3
  have d0 : w1.cell? ⟨b3, 0, none⟩ = some (.int .i64 5) := by simp [cell_of_row w1 b3 _ _ _ (0, 0) e3]
  have x3 : w1.cell? ⟨b3, 1, none⟩ = some (.int .i64 n) := by simp [cell_of_row w1 b3 _ _ _ (0, 0) e3]
  have hltb : b3 < w1.heap.size := lt_of_block e3
  have c0 := sta0.c0 Q1'
  have c1 := sta0.c1 Q1'
  have Q1d := sta0.st Q1' ((Step.refl (fun _ => False) w1 o1).drew) (fun _ _ => id) id
  clear e3
  go_upto_region 21 with fail
  clear d0
  refine wp_region_noPanic ?_
  refine wp_region_held_drew (S := fun wx => wx.cell? ⟨ps, 0, none⟩ = some (.pointer (some ⟨pf, 0, none⟩)) ∧ wx.cell? ⟨ps, 1, none⟩ = some (.pointer (some ⟨px, 0, none⟩)) ∧ wx.cell? ⟨b3, 1, none⟩ = some (.int .i64 n)) (by kernel_rfl) ⟨c0, c1, x3⟩ (fun hHeld => ?_)
  refine wpAnyH_take (i := 0) (v := ?v29) rfl (by kernel_rfl) (by kernel_rfl) (by kernel_rfl) (fun _ _ _ h => h) (Or.inl ⟨by rfl, ?hy29⟩) (by assumption) ?rest29
  case hy29 => (intro w hSw; (try dsimp only at hSw); go_simp; all_goals (with_reducible rfl))
  simp only [Act.put, List.getElem_toArray, List.getElem_cons_zero, List.getElem_cons_succ, List.setIfInBounds_toArray, List.set_cons_zero, List.set_cons_succ]
  refine wpAnyH_take (i := 1) (v := ?v30) rfl (by kernel_rfl) (by kernel_rfl) (by kernel_rfl) (fun _ _ _ h => h) (Or.inl ⟨by rfl, ?hy30⟩) (by assumption) ?rest30
  case hy30 => (intro w hSw; (try dsimp only at hSw); go_simp; all_goals (with_reducible rfl))
  simp only [Act.put, List.getElem_toArray, List.getElem_cons_zero, List.getElem_cons_succ, List.setIfInBounds_toArray, List.set_cons_zero, List.set_cons_succ]
  refine wpAnyH_take (i := 2) (v := ?v31) rfl (by kernel_rfl) (by kernel_rfl) (by kernel_rfl) (fun _ _ _ h => h) (Or.inl ⟨by rfl, ?hy31⟩) (by assumption) ?rest31
  case hy31 => (intro w hSw; (try dsimp only at hSw); go_simp; all_goals (with_reducible rfl))
  simp only [Act.put, List.getElem_toArray, List.getElem_cons_zero, List.getElem_cons_succ, List.setIfInBounds_toArray, List.set_cons_zero, List.set_cons_succ]
  refine wpAnyH_take (i := 3) (v := ?v32) rfl (by kernel_rfl) (by kernel_rfl) (by kernel_rfl) (fun _ _ _ h => h) (Or.inl ⟨by rfl, ?hy32⟩) (by assumption) ?rest32
  case hy32 => (intro w hSw; (try dsimp only at hSw); have k3 := hSw.1; go_simp; all_goals (with_reducible rfl))
  simp only [Act.put, List.getElem_toArray, List.getElem_cons_zero, List.getElem_cons_succ, List.setIfInBounds_toArray, List.set_cons_zero, List.set_cons_succ]
  refine wpAnyH_take (i := 4) (v := ?v33) rfl (by kernel_rfl) (by kernel_rfl) (by kernel_rfl) (fun _ _ _ h => h) (Or.inl ⟨by rfl, ?hy33⟩) (by assumption) ?rest33
  case hy33 => (intro w hSw; (try dsimp only at hSw); go_simp; all_goals (with_reducible rfl))
  simp only [Act.put, List.getElem_toArray, List.getElem_cons_zero, List.getElem_cons_succ, List.setIfInBounds_toArray, List.set_cons_zero, List.set_cons_succ]
  refine wpAnyH_take (i := 5) (v := ?v34) rfl (by kernel_rfl) (by kernel_rfl) (by kernel_rfl) (fun _ _ _ h => h) (Or.inl ⟨by rfl, ?hy34⟩) (by assumption) ?rest34
  case hy34 => (intro w hSw; (try dsimp only at hSw); have k5 := hSw.2.2; go_simp; all_goals (with_reducible rfl))
  simp only [Act.put, List.getElem_toArray, List.getElem_cons_zero, List.getElem_cons_succ, List.setIfInBounds_toArray, List.set_cons_zero, List.set_cons_succ]
  refine wpAnyH_take (i := 7) (v := ?v35) rfl (by kernel_rfl) (by kernel_rfl) (by kernel_rfl) (fun _ _ _ h => h) (Or.inl ⟨by rfl, ?hy35⟩) (by assumption) ?rest35
  case hy35 => (intro w hSw; (try dsimp only at hSw); go_simp; all_goals (with_reducible rfl))
  simp only [Act.put, List.getElem_toArray, List.getElem_cons_zero, List.getElem_cons_succ, List.setIfInBounds_toArray, List.set_cons_zero, List.set_cons_succ]
  refine wpAnyH_take (i := 8) (v := ?v36) rfl (by kernel_rfl) (by kernel_rfl) (by kernel_rfl) (fun _ _ _ h => h) (Or.inl ⟨by rfl, ?hy36⟩) (by assumption) ?rest36
  case hy36 => (intro w hSw; (try dsimp only at hSw); go_simp; all_goals (with_reducible rfl))
  simp only [Act.put, List.getElem_toArray, List.getElem_cons_zero, List.getElem_cons_succ, List.setIfInBounds_toArray, List.set_cons_zero, List.set_cons_succ]
  refine wpAnyH_take (i := 9) (v := ?v37) rfl (by kernel_rfl) (by kernel_rfl) (by kernel_rfl) (fun _ _ _ h => h) (Or.inl ⟨by rfl, ?hy37⟩) (by assumption) ?rest37
  case hy37 => (intro w hSw; (try dsimp only at hSw); go_simp; all_goals (with_reducible rfl))
  simp only [Act.put, List.getElem_toArray, List.getElem_cons_zero, List.getElem_cons_succ, List.setIfInBounds_toArray, List.set_cons_zero, List.set_cons_succ]
  refine wpAnyH_take (i := 10) (v := ?v38) rfl (by kernel_rfl) (by kernel_rfl) (by kernel_rfl) (fun _ _ _ h => h) (Or.inl ⟨by rfl, ?hy38⟩) (by assumption) ?rest38
  case hy38 => (intro w hSw; (try dsimp only at hSw); have k3 := hSw.2.1; go_simp; all_goals (with_reducible rfl))
  simp only [Act.put, List.getElem_toArray, List.getElem_cons_zero, List.getElem_cons_succ, List.setIfInBounds_toArray, List.set_cons_zero, List.set_cons_succ]
  refine wpAnyH_take (i := 11) (v := ?v39) rfl (by kernel_rfl) (by kernel_rfl) (by kernel_rfl) (fun _ _ _ h => h) (Or.inl ⟨by rfl, ?hy39⟩) (by assumption) ?rest39
  case hy39 => (intro w hSw; (try dsimp only at hSw); go_simp; all_goals (with_reducible rfl))
  simp only [Act.put, List.getElem_toArray, List.getElem_cons_zero, List.getElem_cons_succ, List.setIfInBounds_toArray, List.set_cons_zero, List.set_cons_succ]
  refine wpAnyH_take (i := 12) (v := ?v40) rfl (by kernel_rfl) (by kernel_rfl) (by kernel_rfl) (fun _ _ _ h => h) (Or.inl ⟨by rfl, ?hy40⟩) (by assumption) ?rest40
  case hy40 => (intro w hSw; (try dsimp only at hSw); have k5 := hSw.2.2; go_simp; all_goals (with_reducible rfl))
  simp only [Act.put, List.getElem_toArray, List.getElem_cons_zero, List.getElem_cons_succ, List.setIfInBounds_toArray, List.set_cons_zero, List.set_cons_succ]
  refine wpAnyH_ready (rs := [6]) (by kernel_rfl) (by simp) ?_
  refine AllReadyH.cons rfl (fun K hK => ?_) AllReadyH.nil
  go_simp
  refine (hcal1 _ o1 Q1d).mono ?_
  rintro e w4 ⟨rfl, o4, q4, s4⟩
  have y4 := (s4.cellAt (p := ⟨b3, 1, none⟩) hltb (by rw [lb3]; exact hSB)).trans x3
  have k4 := sta1.c0 q4
  have k4b := sta1.c1 q4
  dsimp only
  refine hK.out _ _ ⟨k4, k4b, y4⟩ (fun hHeld => ?_)
  clear hK K
  try simp only [Act.put, List.getElem_toArray, List.getElem_cons_zero, List.getElem_cons_succ, List.setIfInBounds_toArray, List.set_cons_zero, List.set_cons_succ]
  refine wpAnyH_ready (rs := [13]) (by kernel_rfl) (by simp) ?_
  refine AllReadyH.cons rfl (fun K hK => ?_) AllReadyH.nil
  go_simp
  refine (hcal2 _ o4 q4).mono ?_
  rintro e w5 ⟨rfl, o5, q5, s5⟩
  have y5 := (s5.cellAt (p := ⟨b3, 1, none⟩) (Nat.lt_of_lt_of_le hltb s4.size) (by show ¬ SB B (o4 b3); rw [s4.lab b3 hltb, lb3]; exact hSB)).trans y4
  have k5a := sta2.c0 q5
  have k5b := sta2.c1 q5
  dsimp only
  refine hK.out _ _ ⟨k5a, k5b, y5⟩ (fun hHeld => ?_)
  clear hK K
  try simp only [Act.put, List.getElem_toArray, List.getElem_cons_zero, List.getElem_cons_succ, List.setIfInBounds_toArray, List.set_cons_zero, List.set_cons_succ]
  refine wpAnyH_take (i := 14) (v := ?v41) rfl (by kernel_rfl) (by kernel_rfl) (by kernel_rfl) (fun _ _ _ h => h) (Or.inl ⟨by rfl, ?hy41⟩) (by assumption) ?rest41
  case hy41 => (intro w hSw; (try dsimp only at hSw); go_simp; all_goals (with_reducible rfl))
  simp only [Act.put, List.getElem_toArray, List.getElem_cons_zero, List.getElem_cons_succ, List.setIfInBounds_toArray, List.set_cons_zero, List.set_cons_succ]
  refine wpAnyH_take (i := 15) (v := ?v42) rfl (by kernel_rfl) (by kernel_rfl) (by kernel_rfl) (fun _ _ _ h => h) (Or.inl ⟨by rfl, ?hy42⟩) (by assumption) ?rest42
  case hy42 => (intro w hSw; (try dsimp only at hSw); go_simp; all_goals (with_reducible rfl))
  simp only [Act.put, List.getElem_toArray, List.getElem_cons_zero, List.getElem_cons_succ, List.setIfInBounds_toArray, List.set_cons_zero, List.set_cons_succ]
  refine wpAnyH_done (by kernel_rfl) ?_ _
  refine NoPanic.normal ?_
  have HR : Hid (StO w o B Q2 (.returned (.bool true)) w5) := ⟨rfl, o5, q5, (S1.drew.trans (s4.mono fun _ h => Or.inl h)).trans (s5.mono fun _ h => Or.inl h)⟩
  go_wp2
  go_ret
  first | exact HR.out | (simp; exact HR.out)
end Go.Proofs.YtmpkhbblakfglaaDoor
