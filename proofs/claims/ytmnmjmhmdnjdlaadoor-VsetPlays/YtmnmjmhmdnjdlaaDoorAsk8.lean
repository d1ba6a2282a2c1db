/- VsetPlays: a step that asks how many a set has. -/
import Derived.Test.YtmnmjmhmdnjdlaaDoorSame9
import Derived.Test.YtmnmjmhmdnjdlaaDoorMakeB
namespace Go.Proofs.YtmnmjmhmdnjdlaaDoor
open Go.ChangeShapes Go.WideShapes Go.ChangeAt Go.RowKit Go.Maps
set_option linter.unusedVariables false
set_option linter.unusedSimpArgs false

set_option maxRecDepth 100000 in
set_option maxHeartbeats 8000000 in
theorem asks_8 (w : World) (o : Nat → Nat) (p : Nat) (S : Nat → Nat) (va vw : Value) (h : Bk w p S S va vw) (hS : ∀ i, i < 4 → S i < top64) (hT : TzL w o) (b c n : Int) (hb1 : -9223372036854775808 ≤ b) (hb2 : b ≤ 9223372036854775807) (hc1 : -9223372036854775808 ≤ c) (hc2 : c ≤ 9223372036854775807) (hn1 : -9223372036854775808 ≤ n) (hn2 : n ≤ 9223372036854775807) (ao : Option Addr) (len cap : Nat) (hop : o p = 1) :
    Calls Tryd.prog 6 #[.pointer (some ⟨p, 0, none⟩), .agg #[.int .i64 8, .int .i64 b, .int .i64 c, .int .i64 n, .slice ao len cap]] w fun e w' => e = .returned (.bool true) ∧ ∃ o', Step (fun k => k = 99) w o w' o' := by
  have B1 : Below w.heap.size w (w.alloc (.cells #[.int .i64 8, .int .i64 b, .int .i64 c, .int .i64 n, .slice ao len cap] 39)) := bal (b0 w) _
  have K1 := h.below B1
  have S1 : Step (fun k => k = 99) w o _ o := Step.ofBelow o B1
  have T1 := hT.step S1 (by omega)
  have e3 : (w.alloc (.cells #[.int .i64 8, .int .i64 b, .int .i64 c, .int .i64 n, .slice ao len cap] 39)).heap[w.heap.size]? = some (.cells #[.int .i64 8, .int .i64 b, .int .i64 c, .int .i64 n, .slice ao len cap] 39 (0, 0)) := heap_alloc_new w _
  have hp1 := fun wx => pick_c b 4 wx hb1 hb2 (by omega) (by omega)
  have hp2 := fun wx => pick_c c 4 wx hc1 hc2 (by omega) (by omega)
  have hi := pk_lt b 4 (by omega)
  have hk := pk_lt c 4 (by omega)
  generalize pk b 4 = i at hp1 hi
  generalize pk c 4 = k at hp2 hk
  have hiI : (i : Int) < 4 := by omega
  have hkI : (k : Int) < 4 := by omega
  have hSi := hS i hi
  clear h B1 hT
  have hcal := fun wx => len_c (S i) wx hSi
  have hral := fun wx ox => refAll_c (S i) wx ox 99 hSi
  have hcd := al_len (S i)
  unfold sv at hcal
  unfold av at hral
  go_enter Tryd.func6, Tryd.ntmps6
  go_upto_region 1 with fail
  obtain ⟨b3, hb3⟩ : ∃ b3, b3 = w.heap.size := ⟨_, rfl⟩
  rw [← hb3] at e3 ⊢
  generalize w.alloc (.cells #[.int .i64 8, .int .i64 b, .int .i64 c, .int .i64 n, .slice ao len cap] 39) = w1 at K1 S1 T1 e3 ⊢
  clear hb3
  have c0 : w1.cell? ⟨b3, 0, none⟩ = some (.int .i64 8) := by simp [cell_of_row w1 b3 _ _ _ (0, 0) e3]
  have c1 : w1.cell? ⟨b3, 1, none⟩ = some (.int .i64 b) := by simp [cell_of_row w1 b3 _ _ _ (0, 0) e3]
  have c2 : w1.cell? ⟨b3, 2, none⟩ = some (.int .i64 c) := by simp [cell_of_row w1 b3 _ _ _ (0, 0) e3]
  have x3 : w1.cell? ⟨b3, 3, none⟩ = some (.int .i64 n) := by simp [cell_of_row w1 b3 _ _ _ (0, 0) e3]
  clear e3
  go_wp2_with fail
  refine (hp1 _).mono ?_
  rintro e w2 ⟨rfl, rfl⟩
  go_wp2_with fail
  refine (hp2 _).mono ?_
  rintro e w3 ⟨rfl, rfl⟩
  clear hp1 hp2
  go_upto_region 8 with fail
  clear c0 c1 c2
  refine wp_region_noPanic ?_
  refine wp_region_held_drew (S := fun wx => Bk wx p S S va vw ∧ True) (by kernel_rfl) ⟨K1.blk rfl, trivial⟩ (fun hHeld => ?_)
  refine wpAnyH_take (i := 0) (v := ?v37) rfl (by kernel_rfl) (by kernel_rfl) (by kernel_rfl) (fun _ _ _ h => h) (Or.inl ⟨by rfl, ?hy37⟩) (by assumption) ?rest37
  case hy37 => (intro w hSw; (try dsimp only at hSw); go_simp; all_goals (with_reducible rfl))
  simp only [Act.put, List.getElem_toArray, List.getElem_cons_zero, List.getElem_cons_succ, List.setIfInBounds_toArray, List.set_cons_zero, List.set_cons_succ]
  refine wpAnyH_take (i := 1) (v := ?v38) rfl (by kernel_rfl) (by kernel_rfl) (by kernel_rfl) (fun _ _ _ h => h) (Or.inl ⟨by rfl, ?hy38⟩) (by assumption) ?rest38
  case hy38 => (intro w hSw; (try dsimp only at hSw); go_simp; all_goals (with_reducible rfl))
  simp only [Act.put, List.getElem_toArray, List.getElem_cons_zero, List.getElem_cons_succ, List.setIfInBounds_toArray, List.set_cons_zero, List.set_cons_succ]
  refine wpAnyH_take (i := 2) (v := ?v39) rfl (by kernel_rfl) (by kernel_rfl) (by kernel_rfl) (fun _ _ _ h => h) (Or.inl ⟨by rfl, ?hy39⟩) (by assumption) ?rest39
  case hy39 => (intro w hSw; (try dsimp only at hSw); go_simp; all_goals (with_reducible rfl))
  simp only [Act.put, List.getElem_toArray, List.getElem_cons_zero, List.getElem_cons_succ, List.setIfInBounds_toArray, List.set_cons_zero, List.set_cons_succ]
  refine wpAnyH_take (i := 3) (v := ?v40) rfl (by kernel_rfl) (by kernel_rfl) (by kernel_rfl) (fun _ _ _ h => h) (Or.inl ⟨by rfl, ?hy40⟩) (by assumption) ?rest40
  case hy40 => (intro w hSw; (try dsimp only at hSw); go_simp; all_goals (with_reducible rfl))
  simp only [Act.put, List.getElem_toArray, List.getElem_cons_zero, List.getElem_cons_succ, List.setIfInBounds_toArray, List.set_cons_zero, List.set_cons_succ]
  refine wpAnyH_take (i := 4) (v := ?v41) rfl (by kernel_rfl) (by kernel_rfl) (by kernel_rfl) (fun _ _ _ h => h) (Or.inl ⟨by rfl, ?hy41⟩) (by assumption) ?rest41
  case hy41 => (intro w hSw; (try dsimp only at hSw); go_simp; all_goals (with_reducible rfl))
  simp only [Act.put, List.getElem_toArray, List.getElem_cons_zero, List.getElem_cons_succ, List.setIfInBounds_toArray, List.set_cons_zero, List.set_cons_succ]
  refine wpAnyH_take (i := 5) (v := ?v42) rfl (by kernel_rfl) (by kernel_rfl) (by kernel_rfl) (fun _ _ _ h => h) (Or.inl ⟨by rfl, ?hy42⟩) (by assumption) ?rest42
  case hy42 => (intro w hSw; (try dsimp only at hSw); have c5 := hSw.1.s i hi; go_simp; all_goals (with_reducible rfl))
  simp only [Act.put, List.getElem_toArray, List.getElem_cons_zero, List.getElem_cons_succ, List.setIfInBounds_toArray, List.set_cons_zero, List.set_cons_succ]
  refine wpAnyH_take (i := 7) (v := ?v43) rfl (by kernel_rfl) (by kernel_rfl) (by kernel_rfl) (fun _ _ _ h => h) (Or.inl ⟨by rfl, ?hy43⟩) (by assumption) ?rest43
  case hy43 => (intro w hSw; (try dsimp only at hSw); go_simp; all_goals (with_reducible rfl))
  simp only [Act.put, List.getElem_toArray, List.getElem_cons_zero, List.getElem_cons_succ, List.setIfInBounds_toArray, List.set_cons_zero, List.set_cons_succ]
  refine wpAnyH_take (i := 8) (v := ?v44) rfl (by kernel_rfl) (by kernel_rfl) (by kernel_rfl) (fun _ _ _ h => h) (Or.inl ⟨by rfl, ?hy44⟩) (by assumption) ?rest44
  case hy44 => (intro w hSw; (try dsimp only at hSw); go_simp; all_goals (with_reducible rfl))
  simp only [Act.put, List.getElem_toArray, List.getElem_cons_zero, List.getElem_cons_succ, List.setIfInBounds_toArray, List.set_cons_zero, List.set_cons_succ]
  refine wpAnyH_take (i := 9) (v := ?v45) rfl (by kernel_rfl) (by kernel_rfl) (by kernel_rfl) (fun _ _ _ h => h) (Or.inl ⟨by rfl, ?hy45⟩) (by assumption) ?rest45
  case hy45 => (intro w hSw; (try dsimp only at hSw); go_simp; all_goals (with_reducible rfl))
  simp only [Act.put, List.getElem_toArray, List.getElem_cons_zero, List.getElem_cons_succ, List.setIfInBounds_toArray, List.set_cons_zero, List.set_cons_succ]
  refine wpAnyH_take (i := 10) (v := ?v46) rfl (by kernel_rfl) (by kernel_rfl) (by kernel_rfl) (fun _ _ _ h => h) (Or.inl ⟨by rfl, ?hy46⟩) (by assumption) ?rest46
  case hy46 => (intro w hSw; (try dsimp only at hSw); go_simp; all_goals (with_reducible rfl))
  simp only [Act.put, List.getElem_toArray, List.getElem_cons_zero, List.getElem_cons_succ, List.setIfInBounds_toArray, List.set_cons_zero, List.set_cons_succ]
  refine wpAnyH_take (i := 11) (v := ?v47) rfl (by kernel_rfl) (by kernel_rfl) (by kernel_rfl) (fun _ _ _ h => h) (Or.inl ⟨by rfl, ?hy47⟩) (by assumption) ?rest47
  case hy47 => (intro w hSw; (try dsimp only at hSw); go_simp; all_goals (with_reducible rfl))
  simp only [Act.put, List.getElem_toArray, List.getElem_cons_zero, List.getElem_cons_succ, List.setIfInBounds_toArray, List.set_cons_zero, List.set_cons_succ]
  refine wpAnyH_take (i := 12) (v := .agg (b64 (S i)).toArray) rfl (by kernel_rfl) (by kernel_rfl) (by kernel_rfl) (fun _ _ _ h => h) (yieldsIf_load_mid (by rfl) 31 _ rfl p (4 + i * 64) rfl (b64 (S i)) _ (fun w hSw => hSw.1.x i hi) Tryd.underlying31 rfl (sizeSet9 _)) (by assumption) ?_
  simp only [Act.put, List.getElem_toArray, List.getElem_cons_zero, List.getElem_cons_succ, List.setIfInBounds_toArray, List.set_cons_zero, List.set_cons_succ]
  refine wpAnyH_ready (rs := [6]) (by kernel_rfl) (by simp) ?_
  refine AllReadyH.cons rfl (fun K hK => ?_) AllReadyH.nil
  go_simp
  refine (hcal _).mono ?_
  rintro e wA ⟨rfl, bA⟩
  have kkA := hHeld.1.below bA
  have xxA := trivial
  dsimp only
  refine hK.out _ _ ⟨kkA, xxA⟩ (fun hHeld => ?_)
  clear hK K
  try simp only [Act.put, List.getElem_toArray, List.getElem_cons_zero, List.getElem_cons_succ, List.setIfInBounds_toArray, List.set_cons_zero, List.set_cons_succ]
  refine wpAnyH_ready (rs := [13]) (by kernel_rfl) (by simp) ?_
  refine AllReadyH.cons rfl (fun K hK => ?_) AllReadyH.nil
  go_simp
  refine (hral _ o).mono ?_
  rintro e wB ⟨vB, oB, rfl, rB, sB⟩
  obtain ⟨aoB, capB, rfl⟩ := rB.form
  have kkB := hHeld.1.step sB (by rw [hop]; omega)
  have xxB := trivial
  dsimp only
  refine hK.out _ _ ⟨kkB, xxB⟩ (fun hHeld => ?_)
  clear hK K
  try simp only [Act.put, List.getElem_toArray, List.getElem_cons_zero, List.getElem_cons_succ, List.setIfInBounds_toArray, List.set_cons_zero, List.set_cons_succ]
  refine wpAnyH_take (i := 14) (v := ?v48) rfl (by kernel_rfl) (by kernel_rfl) (by kernel_rfl) (fun _ _ _ h => h) (Or.inl ⟨by rfl, ?hy48⟩) (by assumption) ?rest48
  case hy48 => (intro w hSw; (try dsimp only at hSw); go_simp; all_goals (with_reducible rfl))
  simp only [Act.put, List.getElem_toArray, List.getElem_cons_zero, List.getElem_cons_succ, List.setIfInBounds_toArray, List.set_cons_zero, List.set_cons_succ]
  refine wpAnyH_take (i := 15) (v := ?v49) rfl (by kernel_rfl) (by kernel_rfl) (by kernel_rfl) (fun _ _ _ h => h) (Or.inl ⟨by rfl, ?hy49⟩) (by assumption) ?rest49
  case hy49 => (intro w hSw; (try dsimp only at hSw); go_simp; all_goals (with_reducible rfl))
  simp only [Act.put, List.getElem_toArray, List.getElem_cons_zero, List.getElem_cons_succ, List.setIfInBounds_toArray, List.set_cons_zero, List.set_cons_succ]
  refine wpAnyH_take (i := 16) (v := ?v50) rfl (by kernel_rfl) (by kernel_rfl) (by kernel_rfl) (fun _ _ _ h => h) (Or.inl ⟨by rfl, ?hy50⟩) (by assumption) ?rest50
  case hy50 => (intro w hSw; (try dsimp only at hSw); go_simp; all_goals (with_reducible rfl))
  simp only [Act.put, List.getElem_toArray, List.getElem_cons_zero, List.getElem_cons_succ, List.setIfInBounds_toArray, List.set_cons_zero, List.set_cons_succ]
  refine wpAnyH_done (by kernel_rfl) ?_ _
  refine NoPanic.normal ?_
  go_wp2
  go_ret
  exact ⟨by first | rfl | simp [hcd], _, (S1.drew.trans (Step.ofBelow o bA)).trans sB⟩
end Go.Proofs.YtmnmjmhmdnjdlaaDoor
