/- The book's step that makes a set with a number, or without it. -/
import Derived.Test.YtmnmjmhmdnjdlaaDoorMakeB
import Derived.Deep.CutBlock
import Derived.Deep.DeepCutAuto
namespace Go.Proofs.YtmnmjmhmdnjdlaaDoor
open Go.ChangeShapes Go.WideShapes Go.ChangeAt Go.RowKit Go.Maps
set_option linter.unusedVariables false
set_option linter.unusedSimpArgs false

set_option maxRecDepth 100000 in
set_option maxHeartbeats 8000000 in
theorem makes_3g (w : World) (o : Nat → Nat) (p : Nat) (S S' : Nat → Nat) (va vw : Value) (h : Bk w p S S va vw) (hS' : ∀ i, i < 4 → S' i < top64) (b c n : Int) (hb1 : -9223372036854775808 ≤ b) (hb2 : b ≤ 9223372036854775807) (hc1 : -9223372036854775808 ≤ c) (hc2 : c ≤ 9223372036854775807) (ao : Option Addr) (len cap : Nat) (z zz : Nat) (er : Int)
    (hcal1 : ∀ wx, Calls Tryd.prog 21 #[sv (S (pk b 4)), .int .i64 n] wx fun e w' => e = .returned (.tuple #[sv z, .int .i64 er]) ∧ Below wx.heap.size wx w')
    (hcal2 : ∀ wx, Calls Tryd.prog 20 #[av (S (pk b 4)), .int .i64 n, .bool false] wx fun e w' => e = .returned (.tuple #[av zz, .int .i64 er]) ∧ Below wx.heap.size wx w')
    (hlay : ∀ wx, Bk wx p S S va vw → Calls Tryd.prog 18 #[.pointer (some ⟨p, 0, none⟩), .int .i64 (pk b 4 : Nat), sv z, .int .i64 er, av zz, .int .i64 er] wx fun e w' => LayOut wx o p S' S' va vw e w') :
    Calls Tryd.prog 5 #[.pointer (some ⟨p, 0, none⟩), .agg #[.int .i64 3, .int .i64 b, .int .i64 c, .int .i64 n, .slice ao len cap]] w fun e w' => MkOut w o p va vw e w' := by
  have B1 : Below w.heap.size w (w.alloc (.cells #[.int .i64 3, .int .i64 b, .int .i64 c, .int .i64 n, .slice ao len cap] 39)) := bal (b0 w) _
  have K1 := h.below B1
  have S1 : Step (fun k => k = 1) w o _ o := Step.ofBelow o B1
  have e3 : (w.alloc (.cells #[.int .i64 3, .int .i64 b, .int .i64 c, .int .i64 n, .slice ao len cap] 39)).heap[w.heap.size]? = some (.cells #[.int .i64 3, .int .i64 b, .int .i64 c, .int .i64 n, .slice ao len cap] 39 (0, 0)) := heap_alloc_new w _
  have hp1 := fun wx => pick_c b 4 wx hb1 hb2 (by omega) (by omega)
  have hp2 := fun wx => pick_c c 4 wx hc1 hc2 (by omega) (by omega)
  have hi := pk_lt b 4 (by omega)
  generalize pk b 4 = i at hp1 hi hcal1 hcal2 hlay
  have hiI : (i : Int) < 4 := by omega
  have HC1 : Hid (∀ wx, Calls Tryd.prog 21 #[sv (S i), .int .i64 n] wx fun e w' => e = .returned (.tuple #[sv z, .int .i64 er]) ∧ Below wx.heap.size wx w') := hcal1
  have HC2 : Hid (∀ wx, Calls Tryd.prog 20 #[av (S i), .int .i64 n, .bool false] wx fun e w' => e = .returned (.tuple #[av zz, .int .i64 er]) ∧ Below wx.heap.size wx w') := hcal2
  have HLY : Hid (∀ wx, Bk wx p S S va vw → Calls Tryd.prog 18 #[.pointer (some ⟨p, 0, none⟩), .int .i64 (i : Nat), sv z, .int .i64 er, av zz, .int .i64 er] wx fun e w' => LayOut wx o p S' S' va vw e w') := hlay
  clear h B1 hcal1 hcal2 hlay
  go_enter Tryd.func5, Tryd.ntmps5
  go_upto_region 1 with fail
  obtain ⟨b3, hb3⟩ : ∃ b3, b3 = w.heap.size := ⟨_, rfl⟩
  rw [← hb3] at e3 ⊢
  generalize w.alloc (.cells #[.int .i64 3, .int .i64 b, .int .i64 c, .int .i64 n, .slice ao len cap] 39) = w1 at K1 S1 e3 ⊢
  clear hb3
  have c0 : w1.cell? ⟨b3, 0, none⟩ = some (.int .i64 3) := by simp [cell_of_row w1 b3 _ _ _ (0, 0) e3]
  have c1 : w1.cell? ⟨b3, 1, none⟩ = some (.int .i64 b) := by simp [cell_of_row w1 b3 _ _ _ (0, 0) e3]
  have c2 : w1.cell? ⟨b3, 2, none⟩ = some (.int .i64 c) := by simp [cell_of_row w1 b3 _ _ _ (0, 0) e3]
  have x3 : w1.cell? ⟨b3, 3, none⟩ = some (.int .i64 n) := by simp [cell_of_row w1 b3 _ _ _ (0, 0) e3]
  have HX3 : Hid (w1.cell? ⟨b3, 3, none⟩ = some (.int .i64 n)) := x3
  have hltb : b3 < w1.heap.size := lt_of_block e3
  clear x3
  go_wp2_with fail
  refine (hp1 _).mono ?_
  rintro e w2 ⟨rfl, rfl⟩
  go_wp2_with fail
  refine (hp2 _).mono ?_
  rintro e w3 ⟨rfl, rfl⟩
  clear hp1 hp2
  go_upto_region 16 with fail
  clear c0 c1 c2 e3
  have hltp := K1.lt
  have x3 := HX3.out
  have xi := K1.s i hi
  go_cut [18, 19] (fun v14 v15 wx => ∃ b14, v14 = .pointer (some ⟨b14, 0, none⟩) ∧ v15 = .int .i64 er ∧ wx.cell? ⟨b14, 0, none⟩ = some (.int .u64 (z : Nat)) ∧ Below w3.heap.size w3 wx)
  case first =>
    have hcal := HC1.out
    clear K1 S1 HC2 HLY
    unfold sv at hcal
    generalize S i = si at *
    refine wp_region_noPanic ?_
    refine wp_region_held_drew (S := fun wx => Below w3.heap.size w3 wx) (by kernel_rfl) (bdrew _) (fun hHeld => ?_)
    refine wpAnyH_take (i := 0) (v := ?v32) rfl (by kernel_rfl) (by kernel_rfl) (by kernel_rfl) (fun _ _ _ h => h) (Or.inl ⟨by rfl, ?hy32⟩) (by assumption) ?rest32
    case hy32 => (intro w hSw; (try dsimp only at hSw); go_simp; all_goals (with_reducible rfl))
    simp only [Act.put, List.getElem_toArray, List.getElem_cons_zero, List.getElem_cons_succ, List.setIfInBounds_toArray, List.set_cons_zero, List.set_cons_succ]
    refine wpAnyH_take (i := 1) (v := ?v33) rfl (by kernel_rfl) (by kernel_rfl) (by kernel_rfl) (fun _ _ _ h => h) (Or.inl ⟨by rfl, ?hy33⟩) (by assumption) ?rest33
    case hy33 => (intro w hSw; (try dsimp only at hSw); go_simp; all_goals (with_reducible rfl))
    simp only [Act.put, List.getElem_toArray, List.getElem_cons_zero, List.getElem_cons_succ, List.setIfInBounds_toArray, List.set_cons_zero, List.set_cons_succ]
    refine wpAnyH_take (i := 2) (v := ?v34) rfl (by kernel_rfl) (by kernel_rfl) (by kernel_rfl) (fun _ _ _ h => h) (Or.inl ⟨by rfl, ?hy34⟩) (by assumption) ?rest34
    case hy34 => (intro w hSw; (try dsimp only at hSw); go_simp; all_goals (with_reducible rfl))
    simp only [Act.put, List.getElem_toArray, List.getElem_cons_zero, List.getElem_cons_succ, List.setIfInBounds_toArray, List.set_cons_zero, List.set_cons_succ]
    refine wpAnyH_take (i := 3) (v := ?v35) rfl (by kernel_rfl) (by kernel_rfl) (by kernel_rfl) (fun _ _ _ h => h) (Or.inl ⟨by rfl, ?hy35⟩) (by assumption) ?rest35
    case hy35 => (intro w hSw; (try dsimp only at hSw); go_simp; all_goals (with_reducible rfl))
    simp only [Act.put, List.getElem_toArray, List.getElem_cons_zero, List.getElem_cons_succ, List.setIfInBounds_toArray, List.set_cons_zero, List.set_cons_succ]
    refine wpAnyH_take (i := 4) (v := ?v36) rfl (by kernel_rfl) (by kernel_rfl) (by kernel_rfl) (fun _ _ _ h => h) (Or.inl ⟨by rfl, ?hy36⟩) (by assumption) ?rest36
    case hy36 => (intro w hSw; (try dsimp only at hSw); go_simp; all_goals (with_reducible rfl))
    simp only [Act.put, List.getElem_toArray, List.getElem_cons_zero, List.getElem_cons_succ, List.setIfInBounds_toArray, List.set_cons_zero, List.set_cons_succ]
    refine wpAnyH_take (i := 5) (v := ?v37) rfl (by kernel_rfl) (by kernel_rfl) (by kernel_rfl) (fun _ _ _ h => h) (Or.inl ⟨by rfl, ?hy37⟩) (by assumption) ?rest37
    case hy37 => (intro w hSw; (try dsimp only at hSw); have c5 := (hSw.cell (p := ⟨p, i, none⟩) hltp).trans xi; go_simp; all_goals (with_reducible rfl))
    simp only [Act.put, List.getElem_toArray, List.getElem_cons_zero, List.getElem_cons_succ, List.setIfInBounds_toArray, List.set_cons_zero, List.set_cons_succ]
    refine wpAnyH_take (i := 6) (v := ?v38) rfl (by kernel_rfl) (by kernel_rfl) (by kernel_rfl) (fun _ _ _ h => h) (Or.inl ⟨by rfl, ?hy38⟩) (by assumption) ?rest38
    case hy38 => (intro w hSw; (try dsimp only at hSw); go_simp; all_goals (with_reducible rfl))
    simp only [Act.put, List.getElem_toArray, List.getElem_cons_zero, List.getElem_cons_succ, List.setIfInBounds_toArray, List.set_cons_zero, List.set_cons_succ]
    refine wpAnyH_take (i := 7) (v := ?v39) rfl (by kernel_rfl) (by kernel_rfl) (by kernel_rfl) (fun _ _ _ h => h) (Or.inl ⟨by rfl, ?hy39⟩) (by assumption) ?rest39
    case hy39 => (intro w hSw; (try dsimp only at hSw); have c7 := (hSw.cell (p := ⟨b3, 3, none⟩) hltb).trans x3; go_simp; all_goals (with_reducible rfl))
    simp only [Act.put, List.getElem_toArray, List.getElem_cons_zero, List.getElem_cons_succ, List.setIfInBounds_toArray, List.set_cons_zero, List.set_cons_succ]
    refine wpAnyH_ready (rs := [8, 12]) (by kernel_rfl) (by simp) ?_
    refine AllReadyH.cons rfl (fun K hK => ?_) (AllReadyH.cons rfl (fun K hK => ?_) AllReadyH.nil)
    · go_simp
      refine (hcal _).mono ?_
      rintro e w6 ⟨rfl, hb6⟩
      have bx6 := bjoin3 hHeld hb6
      dsimp only
      refine hK.out _ _ bx6 (fun hHeld => ?_)
      clear hK K
      try simp only [Act.put, List.getElem_toArray, List.getElem_cons_zero, List.getElem_cons_succ, List.setIfInBounds_toArray, List.set_cons_zero, List.set_cons_succ]
      refine wpAnyH_take (i := 9) (v := ?v40) rfl (by kernel_rfl) (by kernel_rfl) (by kernel_rfl) (fun _ _ _ h => h) (Or.inl ⟨by rfl, ?hy40⟩) (by assumption) ?rest40
      case hy40 => (intro w hSw; (try dsimp only at hSw); go_simp; all_goals (with_reducible rfl))
      simp only [Act.put, List.getElem_toArray, List.getElem_cons_zero, List.getElem_cons_succ, List.setIfInBounds_toArray, List.set_cons_zero, List.set_cons_succ]
      refine wpAnyH_take (i := 10) (v := ?v41) rfl (by kernel_rfl) (by kernel_rfl) (by kernel_rfl) (fun _ _ _ h => h) (Or.inl ⟨by rfl, ?hy41⟩) (by assumption) ?rest41
      case hy41 => (intro w hSw; (try dsimp only at hSw); go_simp; all_goals (with_reducible rfl))
      simp only [Act.put, List.getElem_toArray, List.getElem_cons_zero, List.getElem_cons_succ, List.setIfInBounds_toArray, List.set_cons_zero, List.set_cons_succ]
      refine wpAnyH_take (i := 11) (v := ?v42) rfl (by kernel_rfl) (by kernel_rfl) (by kernel_rfl) (fun _ _ _ h => h) (Or.inl ⟨by rfl, ?hy42⟩) (by assumption) ?rest42
      case hy42 => (intro w hSw; (try dsimp only at hSw); go_simp; all_goals (with_reducible rfl))
      simp only [Act.put, List.getElem_toArray, List.getElem_cons_zero, List.getElem_cons_succ, List.setIfInBounds_toArray, List.set_cons_zero, List.set_cons_succ]
      refine wpAnyH_ready (rs := [12]) (by kernel_rfl) (by simp) ?_
      refine AllReadyH.cons rfl (fun K hK => ?_) AllReadyH.nil
      go_simp
      refine hK.out _ _ (bx6.alloc bx6.size _) (fun hHeld => ?_)
      clear hK K
      try simp only [Act.put, List.getElem_toArray, List.getElem_cons_zero, List.getElem_cons_succ, List.setIfInBounds_toArray, List.set_cons_zero, List.set_cons_succ]
      refine wpAnyH_ready (rs := [13]) (by kernel_rfl) (by simp) ?_
      refine AllReadyH.cons rfl (fun K hK => ?_) AllReadyH.nil
      have q0 := box_cell w6 0 27
      go_simp
      refine hK.out _ _ (bx6.alloc bx6.size _) (fun hHeld => ?_)
      clear hK K
      try simp only [Act.put, List.getElem_toArray, List.getElem_cons_zero, List.getElem_cons_succ, List.setIfInBounds_toArray, List.set_cons_zero, List.set_cons_succ]
      refine wpAnyH_take (i := 14) (v := ?v43) rfl (by kernel_rfl) (by kernel_rfl) (by kernel_rfl) (fun _ _ _ h => h) (Or.inl ⟨by rfl, ?hy43⟩) (by assumption) ?rest43
      case hy43 => (intro w hSw; (try dsimp only at hSw); go_simp; all_goals (with_reducible rfl))
      simp only [Act.put, List.getElem_toArray, List.getElem_cons_zero, List.getElem_cons_succ, List.setIfInBounds_toArray, List.set_cons_zero, List.set_cons_succ]
      refine wpAnyH_done (by kernel_rfl) ?_ _
      refine NoPanic.normal ?_
      go_wp2
      go_meet
      exact ⟨w6.heap.size, rfl, rfl, box_cell _ _ _, bx6.alloc bx6.size _⟩
    · go_simp
      have ha := hHeld.alloc hHeld.size (.cells #[.int .u64 0] 27)
      refine hK.out _ _ ha (fun hHeld => ?_)
      clear hK K
      try simp only [Act.put, List.getElem_toArray, List.getElem_cons_zero, List.getElem_cons_succ, List.setIfInBounds_toArray, List.set_cons_zero, List.set_cons_succ]
      refine wpAnyH_ready (rs := [8]) (by kernel_rfl) (by simp) ?_
      refine AllReadyH.cons rfl (fun K hK => ?_) AllReadyH.nil
      go_simp
      refine (hcal _).mono ?_
      rintro e w6 ⟨rfl, hb6⟩
      have bx6 := bjoin3 ha hb6
      have q0 : w6.cell? ⟨w3.heap.size, 0, none⟩ = some (.int .u64 0) := keep_below hb6 (box_cell w3.drew 0 27)
      have q1 : w6.frozen? ⟨w3.heap.size, 0, none⟩ = false := (hb6.frozen (by simp)).trans (by simp)
      dsimp only
      refine hK.out _ _ bx6 (fun hHeld => ?_)
      clear hK K
      try simp only [Act.put, List.getElem_toArray, List.getElem_cons_zero, List.getElem_cons_succ, List.setIfInBounds_toArray, List.set_cons_zero, List.set_cons_succ]
      refine wpAnyH_take (i := 9) (v := ?v44) rfl (by kernel_rfl) (by kernel_rfl) (by kernel_rfl) (fun _ _ _ h => h) (Or.inl ⟨by rfl, ?hy44⟩) (by assumption) ?rest44
      case hy44 => (intro w hSw; (try dsimp only at hSw); go_simp; all_goals (with_reducible rfl))
      simp only [Act.put, List.getElem_toArray, List.getElem_cons_zero, List.getElem_cons_succ, List.setIfInBounds_toArray, List.set_cons_zero, List.set_cons_succ]
      refine wpAnyH_take (i := 10) (v := ?v45) rfl (by kernel_rfl) (by kernel_rfl) (by kernel_rfl) (fun _ _ _ h => h) (Or.inl ⟨by rfl, ?hy45⟩) (by assumption) ?rest45
      case hy45 => (intro w hSw; (try dsimp only at hSw); go_simp; all_goals (with_reducible rfl))
      simp only [Act.put, List.getElem_toArray, List.getElem_cons_zero, List.getElem_cons_succ, List.setIfInBounds_toArray, List.set_cons_zero, List.set_cons_succ]
      refine wpAnyH_take (i := 11) (v := ?v46) rfl (by kernel_rfl) (by kernel_rfl) (by kernel_rfl) (fun _ _ _ h => h) (Or.inl ⟨by rfl, ?hy46⟩) (by assumption) ?rest46
      case hy46 => (intro w hSw; (try dsimp only at hSw); go_simp; all_goals (with_reducible rfl))
      simp only [Act.put, List.getElem_toArray, List.getElem_cons_zero, List.getElem_cons_succ, List.setIfInBounds_toArray, List.set_cons_zero, List.set_cons_succ]
      refine wpAnyH_ready (rs := [13]) (by kernel_rfl) (by simp) ?_
      refine AllReadyH.cons rfl (fun K hK => ?_) AllReadyH.nil
      have bx7 := bx6.setCell (p := ⟨w3.heap.size, 0, none⟩) (Nat.le_refl _) (.int .u64 (z : Nat))
      go_simp
      refine hK.out _ _ bx7 (fun hHeld => ?_)
      clear hK K
      try simp only [Act.put, List.getElem_toArray, List.getElem_cons_zero, List.getElem_cons_succ, List.setIfInBounds_toArray, List.set_cons_zero, List.set_cons_succ]
      refine wpAnyH_take (i := 14) (v := ?v47) rfl (by kernel_rfl) (by kernel_rfl) (by kernel_rfl) (fun _ _ _ h => h) (Or.inl ⟨by rfl, ?hy47⟩) (by assumption) ?rest47
      case hy47 => (intro w hSw; (try dsimp only at hSw); go_simp; all_goals (with_reducible rfl))
      simp only [Act.put, List.getElem_toArray, List.getElem_cons_zero, List.getElem_cons_succ, List.setIfInBounds_toArray, List.set_cons_zero, List.set_cons_succ]
      refine wpAnyH_done (by kernel_rfl) ?_ _
      refine NoPanic.normal ?_
      go_wp2
      go_meet
      exact ⟨w3.heap.size, rfl, rfl, World.cell?_setCell_same _ _ _ q0, bx7⟩
  case rest =>
  obtain ⟨b14, rfl, rfl, x14, B4⟩ := hcut
  have K4 := K1.below B4
  have S4 : Step (fun k => k = 1) w o wc o := S1.trans (Step.ofBelow o B4)
  have x3' := (B4.cell (p := ⟨b3, 3, none⟩) hltb).trans x3
  have hltb' : b3 < wc.heap.size := Nat.lt_of_lt_of_le hltb B4.size
  clear K1 S1 B4 x3 hltb HX3 hltp xi HC1
  generalize wc = w4 at K4 S4 x3' hltb' x14 ⊢
  go_upto_region 17 with fail
  have x3 := x3'
  have hltb := hltb'
  have HX14 : Hid (w4.cell? ⟨b14, 0, none⟩ = some (.int .u64 (z : Nat))) := x14
  clear x3' hltb' x14
  have ri := K4.x i hi
  go_cut [20, 21] (fun v16 v17 wx => ∃ b16, v16 = .pointer (some ⟨b16, 0, none⟩) ∧ v17 = .int .i64 er ∧ wx.heap[b16]? = some (.cells (b64 zz).toArray 31 (0, 0)) ∧ Below w4.heap.size w4 wx)
  case first =>
    have hcal := HC2.out
    clear K4 S4 HLY HX14 HC2
    unfold av at hcal
    generalize S i = si at *
    clear z
    generalize zz = z at *
    refine wp_region_noPanic ?_
    refine wp_region_held_drew (S := fun wx => Below w4.heap.size w4 wx) (by kernel_rfl) (bdrew _) (fun hHeld => ?_)
    refine wpAnyH_take (i := 0) (v := ?v48) rfl (by kernel_rfl) (by kernel_rfl) (by kernel_rfl) (fun _ _ _ h => h) (Or.inl ⟨by rfl, ?hy48⟩) (by assumption) ?rest48
    case hy48 => (intro w hSw; (try dsimp only at hSw); go_simp; all_goals (with_reducible rfl))
    simp only [Act.put, List.getElem_toArray, List.getElem_cons_zero, List.getElem_cons_succ, List.setIfInBounds_toArray, List.set_cons_zero, List.set_cons_succ]
    refine wpAnyH_take (i := 1) (v := ?v49) rfl (by kernel_rfl) (by kernel_rfl) (by kernel_rfl) (fun _ _ _ h => h) (Or.inl ⟨by rfl, ?hy49⟩) (by assumption) ?rest49
    case hy49 => (intro w hSw; (try dsimp only at hSw); go_simp; all_goals (with_reducible rfl))
    simp only [Act.put, List.getElem_toArray, List.getElem_cons_zero, List.getElem_cons_succ, List.setIfInBounds_toArray, List.set_cons_zero, List.set_cons_succ]
    refine wpAnyH_take (i := 2) (v := ?v50) rfl (by kernel_rfl) (by kernel_rfl) (by kernel_rfl) (fun _ _ _ h => h) (Or.inl ⟨by rfl, ?hy50⟩) (by assumption) ?rest50
    case hy50 => (intro w hSw; (try dsimp only at hSw); go_simp; all_goals (with_reducible rfl))
    simp only [Act.put, List.getElem_toArray, List.getElem_cons_zero, List.getElem_cons_succ, List.setIfInBounds_toArray, List.set_cons_zero, List.set_cons_succ]
    refine wpAnyH_take (i := 3) (v := ?v51) rfl (by kernel_rfl) (by kernel_rfl) (by kernel_rfl) (fun _ _ _ h => h) (Or.inl ⟨by rfl, ?hy51⟩) (by assumption) ?rest51
    case hy51 => (intro w hSw; (try dsimp only at hSw); go_simp; all_goals (with_reducible rfl))
    simp only [Act.put, List.getElem_toArray, List.getElem_cons_zero, List.getElem_cons_succ, List.setIfInBounds_toArray, List.set_cons_zero, List.set_cons_succ]
    refine wpAnyH_take (i := 4) (v := ?v52) rfl (by kernel_rfl) (by kernel_rfl) (by kernel_rfl) (fun _ _ _ h => h) (Or.inl ⟨by rfl, ?hy52⟩) (by assumption) ?rest52
    case hy52 => (intro w hSw; (try dsimp only at hSw); go_simp; all_goals (with_reducible rfl))
    simp only [Act.put, List.getElem_toArray, List.getElem_cons_zero, List.getElem_cons_succ, List.setIfInBounds_toArray, List.set_cons_zero, List.set_cons_succ]
    refine wpAnyH_take (i := 5) (v := .agg (b64 si).toArray) rfl (by kernel_rfl) (by kernel_rfl) (by kernel_rfl) (fun _ _ _ h => h) (yieldsIf_load_mid (by rfl) 31 _ rfl p (4 + i * 64) rfl (b64 si) _ (fun w hSw => keep_range hSw ri) Tryd.underlying31 rfl (sizeSet9 _)) (by assumption) ?_
    simp only [Act.put, List.getElem_toArray, List.getElem_cons_zero, List.getElem_cons_succ, List.setIfInBounds_toArray, List.set_cons_zero, List.set_cons_succ]
    refine wpAnyH_take (i := 6) (v := ?v53) rfl (by kernel_rfl) (by kernel_rfl) (by kernel_rfl) (fun _ _ _ h => h) (Or.inl ⟨by rfl, ?hy53⟩) (by assumption) ?rest53
    case hy53 => (intro w hSw; (try dsimp only at hSw); go_simp; all_goals (with_reducible rfl))
    simp only [Act.put, List.getElem_toArray, List.getElem_cons_zero, List.getElem_cons_succ, List.setIfInBounds_toArray, List.set_cons_zero, List.set_cons_succ]
    refine wpAnyH_take (i := 7) (v := ?v54) rfl (by kernel_rfl) (by kernel_rfl) (by kernel_rfl) (fun _ _ _ h => h) (Or.inl ⟨by rfl, ?hy54⟩) (by assumption) ?rest54
    case hy54 => (intro w hSw; (try dsimp only at hSw); have c7 := (hSw.cell (p := ⟨b3, 3, none⟩) hltb).trans x3; go_simp; all_goals (with_reducible rfl))
    simp only [Act.put, List.getElem_toArray, List.getElem_cons_zero, List.getElem_cons_succ, List.setIfInBounds_toArray, List.set_cons_zero, List.set_cons_succ]
    refine wpAnyH_ready (rs := [8, 12]) (by kernel_rfl) (by simp) ?_
    refine AllReadyH.cons rfl (fun K hK => ?_) (AllReadyH.cons rfl (fun K hK => ?_) AllReadyH.nil)
    · go_simp
      refine (hcal _).mono ?_
      rintro e w6 ⟨rfl, hb6⟩
      have bx6 := bjoin3 hHeld hb6
      dsimp only
      refine hK.out _ _ bx6 (fun hHeld => ?_)
      clear hK K
      try simp only [Act.put, List.getElem_toArray, List.getElem_cons_zero, List.getElem_cons_succ, List.setIfInBounds_toArray, List.set_cons_zero, List.set_cons_succ]
      refine wpAnyH_take (i := 9) (v := ?v55) rfl (by kernel_rfl) (by kernel_rfl) (by kernel_rfl) (fun _ _ _ h => h) (Or.inl ⟨by rfl, ?hy55⟩) (by assumption) ?rest55
      case hy55 => (intro w hSw; (try dsimp only at hSw); go_simp; all_goals (with_reducible rfl))
      simp only [Act.put, List.getElem_toArray, List.getElem_cons_zero, List.getElem_cons_succ, List.setIfInBounds_toArray, List.set_cons_zero, List.set_cons_succ]
      refine wpAnyH_take (i := 10) (v := ?v56) rfl (by kernel_rfl) (by kernel_rfl) (by kernel_rfl) (fun _ _ _ h => h) (Or.inl ⟨by rfl, ?hy56⟩) (by assumption) ?rest56
      case hy56 => (intro w hSw; (try dsimp only at hSw); go_simp; all_goals (with_reducible rfl))
      simp only [Act.put, List.getElem_toArray, List.getElem_cons_zero, List.getElem_cons_succ, List.setIfInBounds_toArray, List.set_cons_zero, List.set_cons_succ]
      refine wpAnyH_take (i := 11) (v := ?v57) rfl (by kernel_rfl) (by kernel_rfl) (by kernel_rfl) (fun _ _ _ h => h) (Or.inl ⟨by rfl, ?hy57⟩) (by assumption) ?rest57
      case hy57 => (intro w hSw; (try dsimp only at hSw); go_simp; all_goals (with_reducible rfl))
      simp only [Act.put, List.getElem_toArray, List.getElem_cons_zero, List.getElem_cons_succ, List.setIfInBounds_toArray, List.set_cons_zero, List.set_cons_succ]
      refine wpAnyH_ready (rs := [12]) (by kernel_rfl) (by simp) ?_
      refine AllReadyH.cons rfl (fun K hK => ?_) AllReadyH.nil
      rw [if_pos (by rfl)]
      refine wp_alloc9 31 rfl (.agg (b64 0).toArray) (zero9 _) ?_
      simp only [Value.cells]
      have bx7 := bx6.alloc bx6.size (.cells (b64 0).toArray 31)
      refine hK.out _ _ bx7 (fun hHeld => ?_)
      clear hK K
      try simp only [Act.put, List.getElem_toArray, List.getElem_cons_zero, List.getElem_cons_succ, List.setIfInBounds_toArray, List.set_cons_zero, List.set_cons_succ]
      refine wpAnyH_ready (rs := [13]) (by kernel_rfl) (by simp) ?_
      refine AllReadyH.cons rfl (fun K hK => ?_) AllReadyH.nil
      have r7 := heap_alloc_new w6 (.cells (b64 0).toArray 31)
      rw [if_pos (by rfl)]
      refine wp_store_mid _ _ _ rfl w6.heap.size 0 (b64 z).toArray rfl rfl (there9 r7 z) (size9 _) (all_oneCell_toArray (b64_one _)) ?_
      have bx8 := below_setCells bx6.size (b64 z) 0 _ bx7
      have r8 := setCells_row (cs := b64 z) r7 (by rw [b64_len, b64_len])
      refine hK.out _ _ bx8 (fun hHeld => ?_)
      clear hK K
      try simp only [Act.put, List.getElem_toArray, List.getElem_cons_zero, List.getElem_cons_succ, List.setIfInBounds_toArray, List.set_cons_zero, List.set_cons_succ]
      refine wpAnyH_take (i := 14) (v := ?v58) rfl (by kernel_rfl) (by kernel_rfl) (by kernel_rfl) (fun _ _ _ h => h) (Or.inl ⟨by rfl, ?hy58⟩) (by assumption) ?rest58
      case hy58 => (intro w hSw; (try dsimp only at hSw); go_simp; all_goals (with_reducible rfl))
      simp only [Act.put, List.getElem_toArray, List.getElem_cons_zero, List.getElem_cons_succ, List.setIfInBounds_toArray, List.set_cons_zero, List.set_cons_succ]
      refine wpAnyH_done (by kernel_rfl) ?_ _
      refine NoPanic.normal ?_
      go_wp2
      go_meet
      exact ⟨w6.heap.size, rfl, rfl, r8, bx8⟩
    · rw [if_pos (by rfl)]
      refine wp_alloc9 31 rfl (.agg (b64 0).toArray) (zero9 _) ?_
      simp only [Value.cells]
      have ha := hHeld.alloc hHeld.size (.cells (b64 0).toArray 31)
      refine hK.out _ _ ha (fun hHeld => ?_)
      clear hK K
      try simp only [Act.put, List.getElem_toArray, List.getElem_cons_zero, List.getElem_cons_succ, List.setIfInBounds_toArray, List.set_cons_zero, List.set_cons_succ]
      refine wpAnyH_ready (rs := [8]) (by kernel_rfl) (by simp) ?_
      refine AllReadyH.cons rfl (fun K hK => ?_) AllReadyH.nil
      go_simp
      refine (hcal _).mono ?_
      rintro e w6 ⟨rfl, hb6⟩
      have bx6 := bjoin3 ha hb6
      have r6 : w6.heap[w4.heap.size]? = some (.cells (b64 0).toArray 31 (0, 0)) := (hb6.block w4.heap.size (by simp)).trans (heap_alloc_new w4.drew _)
      dsimp only
      refine hK.out _ _ bx6 (fun hHeld => ?_)
      clear hK K
      try simp only [Act.put, List.getElem_toArray, List.getElem_cons_zero, List.getElem_cons_succ, List.setIfInBounds_toArray, List.set_cons_zero, List.set_cons_succ]
      refine wpAnyH_take (i := 9) (v := ?v59) rfl (by kernel_rfl) (by kernel_rfl) (by kernel_rfl) (fun _ _ _ h => h) (Or.inl ⟨by rfl, ?hy59⟩) (by assumption) ?rest59
      case hy59 => (intro w hSw; (try dsimp only at hSw); go_simp; all_goals (with_reducible rfl))
      simp only [Act.put, List.getElem_toArray, List.getElem_cons_zero, List.getElem_cons_succ, List.setIfInBounds_toArray, List.set_cons_zero, List.set_cons_succ]
      refine wpAnyH_take (i := 10) (v := ?v60) rfl (by kernel_rfl) (by kernel_rfl) (by kernel_rfl) (fun _ _ _ h => h) (Or.inl ⟨by rfl, ?hy60⟩) (by assumption) ?rest60
      case hy60 => (intro w hSw; (try dsimp only at hSw); go_simp; all_goals (with_reducible rfl))
      simp only [Act.put, List.getElem_toArray, List.getElem_cons_zero, List.getElem_cons_succ, List.setIfInBounds_toArray, List.set_cons_zero, List.set_cons_succ]
      refine wpAnyH_take (i := 11) (v := ?v61) rfl (by kernel_rfl) (by kernel_rfl) (by kernel_rfl) (fun _ _ _ h => h) (Or.inl ⟨by rfl, ?hy61⟩) (by assumption) ?rest61
      case hy61 => (intro w hSw; (try dsimp only at hSw); go_simp; all_goals (with_reducible rfl))
      simp only [Act.put, List.getElem_toArray, List.getElem_cons_zero, List.getElem_cons_succ, List.setIfInBounds_toArray, List.set_cons_zero, List.set_cons_succ]
      refine wpAnyH_ready (rs := [13]) (by kernel_rfl) (by simp) ?_
      refine AllReadyH.cons rfl (fun K hK => ?_) AllReadyH.nil
      rw [if_pos (by rfl)]
      refine wp_store_mid _ _ _ rfl w4.heap.size 0 (b64 z).toArray rfl rfl (there9 r6 z) (size9 _) (all_oneCell_toArray (b64_one _)) ?_
      have bx8 := below_setCells (Nat.le_refl w4.heap.size) (b64 z) 0 _ bx6
      have r8 := setCells_row (cs := b64 z) r6 (by rw [b64_len, b64_len])
      refine hK.out _ _ bx8 (fun hHeld => ?_)
      clear hK K
      try simp only [Act.put, List.getElem_toArray, List.getElem_cons_zero, List.getElem_cons_succ, List.setIfInBounds_toArray, List.set_cons_zero, List.set_cons_succ]
      refine wpAnyH_take (i := 14) (v := ?v62) rfl (by kernel_rfl) (by kernel_rfl) (by kernel_rfl) (fun _ _ _ h => h) (Or.inl ⟨by rfl, ?hy62⟩) (by assumption) ?rest62
      case hy62 => (intro w hSw; (try dsimp only at hSw); go_simp; all_goals (with_reducible rfl))
      simp only [Act.put, List.getElem_toArray, List.getElem_cons_zero, List.getElem_cons_succ, List.setIfInBounds_toArray, List.set_cons_zero, List.set_cons_succ]
      refine wpAnyH_done (by kernel_rfl) ?_ _
      refine NoPanic.normal ?_
      go_wp2
      go_meet
      exact ⟨w4.heap.size, rfl, rfl, r8, bx8⟩
  case rest =>
  obtain ⟨b16, rfl, rfl, r16, B5⟩ := hcut
  have K5 := K4.below B5
  have S5 : Step (fun k => k = 1) w o wc o := S4.trans (Step.ofBelow o B5)
  have x14 := keep_below B5 HX14.out
  have hlay := HLY.out wc K5
  have q16 := range_blk r16
  have HF : Hid (∀ w', LayOut wc o p S' S' va vw (.returned (.bool true)) w' → MkOut w o p va vw (.returned (.bool true)) w') := fun w' hL => ⟨_, rfl, hL.2.1, hS', S5.trans hL.2.2⟩
  clear K4 S4 K5 S5 B5 r16 HX14 ri x3 hltb HLY HC2
  unfold av sv at hlay
  go_wp2_with (refine wpList_load_mid rfl 31 _ rfl b16 0 rfl (b64 zz) _ q16 Tryd.underlying31 rfl (sizeSet9 _) ?_)
  refine hlay.mono ?_
  rintro e w7 hL
  obtain ⟨rfl, hL2, hL3⟩ := hL
  have hR := HF.out w7 ⟨rfl, hL2, hL3⟩
  clear HF hL2 hL3 hlay
  go_wp2
  go_ret
  exact hR
set_option maxRecDepth 100000 in
theorem makes_3 (w : World) (o : Nat → Nat) (p : Nat) (S : Nat → Nat) (va vw : Value) (h : Bk w p S S va vw) (hop : o p = 1) (hS : ∀ i, i < 4 → S i < top64) (b c n : Int) (hb1 : -9223372036854775808 ≤ b) (hb2 : b ≤ 9223372036854775807) (hc1 : -9223372036854775808 ≤ c) (hc2 : c ≤ 9223372036854775807) (ao : Option Addr) (len cap : Nat) :
    Calls Tryd.prog 5 #[.pointer (some ⟨p, 0, none⟩), .agg #[.int .i64 3, .int .i64 b, .int .i64 c, .int .i64 n, .slice ao len cap]] w fun e w' => MkOut w o p va vw e w' := by
  have hi := pk_lt b 4 (by omega)
  have hSi := hS _ hi
  by_cases hn : 0 ≤ n ∧ n < 64
  · obtain ⟨m, rfl⟩ := Int.eq_ofNat_of_zero_le hn.1
    have hm : m < 64 := by omega
    refine makes_3g w o p S _ va vw h (upd_lt hS (put1_lt hSi hm false)) b c (m : Int) hb1 hb2 hc1 hc2 ao len cap (put1 (S (pk b 4)) m false) (put1 (S (pk b 4)) m false) 0 (fun wx => ?_) (fun wx => refWith_c _ m false wx hSi hm) (fun wx hk => lays_ok wx o p _ _ _ S S va vw hk hop hi)
    exact without_yes _ m wx hSi hm
  · exact makes_3g w o p S S va vw h hS b c n hb1 hb2 hc1 hc2 ao len cap 0 0 1 (fun wx => without_no _ n wx hSi (by omega)) (fun wx => refWith_no _ n false wx hn) (fun wx hk => lays_no wx o p _ 0 S S va vw hk)
end Go.Proofs.YtmnmjmhmdnjdlaaDoor
