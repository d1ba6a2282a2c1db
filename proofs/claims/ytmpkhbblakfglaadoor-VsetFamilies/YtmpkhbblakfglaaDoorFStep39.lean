/- VsetFamilies: a step that asks for the set of a name. -/
import Derived.Test.YtmpkhbblakfglaaDoorFComb9
import Derived.Test.YtmpkhbblakfglaaDoorRefA9
namespace Go.Proofs.YtmpkhbblakfglaaDoor
open Go.ChangeShapes Go.WideShapes Go.ChangeAt Go.RowKit Go.Maps
set_option linter.unusedVariables false
set_option linter.unusedSimpArgs false

theorem bdrew9 (w : World) : Below w.heap.size w w.drew := ⟨rfl, rfl, rfl, Nat.le_refl _, fun _ _ => rfl⟩
theorem wp_alloc99 {P : Program} {op : Oper} {a : Act} {w : World} {K : Act → World → Prop} {Q : Exit → Act → World → Prop} (t : TypeId) (ho : op.op = .alloc t) (z : Value) (hz : (zeroValue t).run P w = .ok z w)
    (h : K (a.put op.dst (.pointer (some ⟨w.heap.size, 0, none⟩))) (w.alloc (.cells z.cells t))) : op.wp P a w K Q := by
  unfold Oper.wp execOp
  simp only [ho, Sem.run_bind, Instr.alloc, hz, newVar, newRow, run_newObj_alloc, Sem.run_pure, Result.andThen_ok]
  exact h
theorem keep_range9 {w w' : World} (b : Below w.heap.size w w') {p k : Nat} {cs : List Value} (h : w.rangeAt p k cs) : w'.rangeAt p k cs := fun j v hv => keep_below9 b (h j v hv)
set_option maxHeartbeats 1000000 in
theorem same_r9 (w : World) (o o2 : Nat → Nat) (La Lb n : Nat) (l : List Nat) (va vb : Value) (hl : l.length = n) (hn : n ≤ 5000) (ha : Row w o La 3 1 va n (intsL l)) (hb : Row w o2 Lb 3 1 vb n (intsL l)) :
    Calls Tryd.prog 9 #[va, vb] w fun e w' => e = .returned (.bool true) ∧ ∃ m, w' = w.drewN m := by
  obtain ⟨aa, ca, rfl⟩ := ha.form
  obtain ⟨ab, cb, rfl⟩ := hb.form
  have HL : Hid (l.length = n) := hl
  clear hl
  go_enter Tryd.func9, Tryd.ntmps9
  go_wp2
  go_loopw [5] (fun i wr => ∃ k : Nat, k ≤ n ∧ i = .int .i64 k ∧ ∃ m, wr = w.drewN m) (fun i _ => n - (intOf i).toNat)
  case atStart => exact ⟨0, by omega, by go_num, 0, rfl⟩
  case round =>
    obtain ⟨k, hk, rfl, m, rfl⟩ := hrel
    by_cases hlt : k < n
    · obtain ⟨ga, ca', hv, _, hca, hma, _, hcla, _⟩ := ha.pos (by omega)
      simp only [Value.slice.injEq, true_and] at hv
      obtain ⟨rfl, rfl⟩ := hv
      obtain ⟨gb, cb', hv, _, hcb, hmb, _, hclb, _⟩ := hb.pos (by omega)
      simp only [Value.slice.injEq, true_and] at hv
      obtain ⟨rfl, rfl⟩ := hv
      have hkl : k < l.length := by rw [HL.out]; exact hlt
      have cA := (hcla k (by omega)).trans (intsL_get l k hkl)
      have cB := (hclb k (by omega)).trans (intsL_get l k hkl)
      unfold maxLen at hma hmb
      clear hcla hclb
      go_wp2
      go_quiet (fail)
      go_wp2
      go_roundw
      case rel => (try ((repeat apply Exists.intro); refine ⟨?_, rfl⟩)); exact ⟨k + 1, by omega, by go_num, _, rfl⟩
      case measure => simp [intOf]; omega
    · obtain rfl : k = n := by omega
      go_wp2
      go_ret
      exact ⟨rfl, _, rfl⟩

set_option maxRecDepth 100000 in
set_option maxHeartbeats 8000000 in
theorem step_3g (w : World) (o : Nat → Nat) (B ps pf px : Nat) (hB : 1000 ≤ B) (Q0 : World → (Nat → Nat) → Prop) (sta0 : Sta9 B ps pf px Q0) (hTz : ∀ w o, Q0 w o → TzL w o) (q0 : Q0 w o) (n : Int) (s : ByteArray) (ao : Option Addr) (len cap : Nat) (ot : Bool) (z : Nat) (hz : z < top64) (r : Int)
    (hcal1 : ∀ wx ox, Q0 wx ox → Calls Tryd.prog 13 #[.pointer (some ⟨pf, 0, none⟩), .string s] wx fun e w' => e = .returned (.tuple #[sv z, .int .i64 r]) ∧ Below wx.heap.size wx w')
    (hcal2 : ∀ wx ox, Q0 wx ox → Calls Tryd.prog 18 #[.pointer (some ⟨px, 0, none⟩), .string s] wx fun e w' => e = .returned (.tuple #[av z, .int .i64 r]) ∧ Below wx.heap.size wx w') :
    Calls Tryd.prog 6 #[.pointer (some ⟨ps, 0, none⟩), .agg #[.int .i64 3, .int .i64 n, .string s, .slice ao len cap, .bool ot]] w fun e w' => StO w o B Q0 e w' := by
  have sB := newStep (fun _ => False) w o 95 (.cells #[.int .i64 3, .int .i64 n, .string s, .slice ao len cap, .bool ot] 37)
  have Q1 := sta0.st q0 sB (fun _ _ => id) id
  have S1 : Step (fun k => SB B k ∨ (90 ≤ k ∧ k < 300)) w o _ _ := sB.mono (fun _ h => h.elim)
  have e3 : (w.alloc (.cells #[.int .i64 3, .int .i64 n, .string s, .slice ao len cap, .bool ot] 37)).heap[w.heap.size]? = some (.cells #[.int .i64 3, .int .i64 n, .string s, .slice ao len cap, .bool ot] 37 (0, 0)) := heap_alloc_new w _
  have lb3 : newLab w o 95 w.heap.size = 95 := newLab_new (Nat.le_refl _)
  have lbn : ∀ k, w.heap.size ≤ k → newLab w o 95 k = 95 := fun k hk => newLab_new hk
  clear q0 sB
  go_enter Tryd.func6, Tryd.ntmps6
  go_upto_region 1 with fail
  obtain ⟨b3, hb3⟩ : ∃ b3, b3 = w.heap.size := ⟨_, rfl⟩
  rw [← hb3] at e3 lb3 lbn ⊢
  generalize newLab w o 95 = o1 at Q1 S1 lb3 lbn
  generalize w.alloc (.cells #[.int .i64 3, .int .i64 n, .string s, .slice ao len cap, .bool ot] 37) = w1 at Q1 S1 e3 ⊢
  clear hb3
  have d0 : w1.cell? ⟨b3, 0, none⟩ = some (.int .i64 3) := by simp [cell_of_row w1 b3 _ _ _ (0, 0) e3]
  have x3 : w1.cell? ⟨b3, 2, none⟩ = some (.string s) := by simp [cell_of_row w1 b3 _ _ _ (0, 0) e3]
  have hltb : b3 < w1.heap.size := lt_of_block e3
  have HX3 : Hid (w1.cell? ⟨b3, 2, none⟩ = some (.string s)) := x3
  clear e3 x3
  go_upto_region 7 with fail
  clear d0
  have x3 := HX3.out
  have c0 := sta0.c0 Q1
  have hltp : ps < w1.heap.size := World.block_lt_of_cell? w1 _ c0
  go_cut [5, 6] (fun v5 v6 wx => ∃ b5, v5 = .pointer (some ⟨b5, 0, none⟩) ∧ v6 = .int .i64 r ∧ wx.cell? ⟨b5, 0, none⟩ = some (.int .u64 (z : Nat)) ∧ w1.heap.size ≤ b5 ∧ Below w1.heap.size w1 wx)
  case first =>
    have hcal : ∀ wx, Below w1.heap.size w1 wx → Calls Tryd.prog 13 #[.pointer (some ⟨pf, 0, none⟩), .string s] wx fun e w' => e = .returned (.tuple #[sv z, .int .i64 r]) ∧ Below wx.heap.size wx w' := fun wx hb => hcal1 wx o1 (sta0.st Q1 (Step.ofBelow (I := fun _ => False) o1 hb) (fun _ _ => id) id)
    clear hcal1 hcal2 Q1 S1
    unfold sv at hcal
    refine wp_region_noPanic ?_
    refine wp_region_held_drew (S := fun wx => Below w1.heap.size w1 wx) (by kernel_rfl) (bdrew9 _) (fun hHeld => ?_)
    refine wpAnyH_take (i := 0) (v := ?v1) rfl (by kernel_rfl) (by kernel_rfl) (by kernel_rfl) (fun _ _ _ h => h) (Or.inl ⟨by rfl, ?hy1⟩) (by assumption) ?rest1
    case hy1 => (intro w hSw; (try dsimp only at hSw); go_simp; all_goals (with_reducible rfl))
    simp only [Act.put, List.getElem_toArray, List.getElem_cons_zero, List.getElem_cons_succ, List.setIfInBounds_toArray, List.set_cons_zero, List.set_cons_succ]
    refine wpAnyH_take (i := 1) (v := ?v2) rfl (by kernel_rfl) (by kernel_rfl) (by kernel_rfl) (fun _ _ _ h => h) (Or.inl ⟨by rfl, ?hy2⟩) (by assumption) ?rest2
    case hy2 => (intro w hSw; (try dsimp only at hSw); go_simp; all_goals (with_reducible rfl))
    simp only [Act.put, List.getElem_toArray, List.getElem_cons_zero, List.getElem_cons_succ, List.setIfInBounds_toArray, List.set_cons_zero, List.set_cons_succ]
    refine wpAnyH_take (i := 2) (v := ?v3) rfl (by kernel_rfl) (by kernel_rfl) (by kernel_rfl) (fun _ _ _ h => h) (Or.inl ⟨by rfl, ?hy3⟩) (by assumption) ?rest3
    case hy3 => (intro w hSw; (try dsimp only at hSw); go_simp; all_goals (with_reducible rfl))
    simp only [Act.put, List.getElem_toArray, List.getElem_cons_zero, List.getElem_cons_succ, List.setIfInBounds_toArray, List.set_cons_zero, List.set_cons_succ]
    refine wpAnyH_take (i := 3) (v := ?v4) rfl (by kernel_rfl) (by kernel_rfl) (by kernel_rfl) (fun _ _ _ h => h) (Or.inl ⟨by rfl, ?hy4⟩) (by assumption) ?rest4
    case hy4 => (intro w hSw; (try dsimp only at hSw); have c5 := (hSw.cell (p := ⟨ps, 0, none⟩) hltp).trans c0; go_simp; all_goals (with_reducible rfl))
    simp only [Act.put, List.getElem_toArray, List.getElem_cons_zero, List.getElem_cons_succ, List.setIfInBounds_toArray, List.set_cons_zero, List.set_cons_succ]
    refine wpAnyH_take (i := 4) (v := ?v5) rfl (by kernel_rfl) (by kernel_rfl) (by kernel_rfl) (fun _ _ _ h => h) (Or.inl ⟨by rfl, ?hy5⟩) (by assumption) ?rest5
    case hy5 => (intro w hSw; (try dsimp only at hSw); go_simp; all_goals (with_reducible rfl))
    simp only [Act.put, List.getElem_toArray, List.getElem_cons_zero, List.getElem_cons_succ, List.setIfInBounds_toArray, List.set_cons_zero, List.set_cons_succ]
    refine wpAnyH_take (i := 5) (v := ?v6) rfl (by kernel_rfl) (by kernel_rfl) (by kernel_rfl) (fun _ _ _ h => h) (Or.inl ⟨by rfl, ?hy6⟩) (by assumption) ?rest6
    case hy6 => (intro w hSw; (try dsimp only at hSw); have c7 := (hSw.cell (p := ⟨b3, 2, none⟩) hltb).trans x3; go_simp; all_goals (with_reducible rfl))
    simp only [Act.put, List.getElem_toArray, List.getElem_cons_zero, List.getElem_cons_succ, List.setIfInBounds_toArray, List.set_cons_zero, List.set_cons_succ]
    refine wpAnyH_ready (rs := [6, 10]) (by kernel_rfl) (by simp) ?_
    refine AllReadyH.cons rfl (fun K hK => ?_) (AllReadyH.cons rfl (fun K hK => ?_) AllReadyH.nil)
    · go_simp
      refine (hcal _ hHeld).mono ?_
      rintro e w6 ⟨rfl, hb6⟩
      have bx6 := bjoin hHeld hb6
      dsimp only
      refine hK.out _ _ bx6 (fun hHeld => ?_)
      clear hK K
      try simp only [Act.put, List.getElem_toArray, List.getElem_cons_zero, List.getElem_cons_succ, List.setIfInBounds_toArray, List.set_cons_zero, List.set_cons_succ]
      refine wpAnyH_take (i := 7) (v := ?v7) rfl (by kernel_rfl) (by kernel_rfl) (by kernel_rfl) (fun _ _ _ h => h) (Or.inl ⟨by rfl, ?hy7⟩) (by assumption) ?rest7
      case hy7 => (intro w hSw; (try dsimp only at hSw); go_simp; all_goals (with_reducible rfl))
      simp only [Act.put, List.getElem_toArray, List.getElem_cons_zero, List.getElem_cons_succ, List.setIfInBounds_toArray, List.set_cons_zero, List.set_cons_succ]
      refine wpAnyH_take (i := 8) (v := ?v8) rfl (by kernel_rfl) (by kernel_rfl) (by kernel_rfl) (fun _ _ _ h => h) (Or.inl ⟨by rfl, ?hy8⟩) (by assumption) ?rest8
      case hy8 => (intro w hSw; (try dsimp only at hSw); go_simp; all_goals (with_reducible rfl))
      simp only [Act.put, List.getElem_toArray, List.getElem_cons_zero, List.getElem_cons_succ, List.setIfInBounds_toArray, List.set_cons_zero, List.set_cons_succ]
      refine wpAnyH_take (i := 9) (v := ?v9) rfl (by kernel_rfl) (by kernel_rfl) (by kernel_rfl) (fun _ _ _ h => h) (Or.inl ⟨by rfl, ?hy9⟩) (by assumption) ?rest9
      case hy9 => (intro w hSw; (try dsimp only at hSw); go_simp; all_goals (with_reducible rfl))
      simp only [Act.put, List.getElem_toArray, List.getElem_cons_zero, List.getElem_cons_succ, List.setIfInBounds_toArray, List.set_cons_zero, List.set_cons_succ]
      refine wpAnyH_ready (rs := [10]) (by kernel_rfl) (by simp) ?_
      refine AllReadyH.cons rfl (fun K hK => ?_) AllReadyH.nil
      go_simp
      refine hK.out _ _ (bx6.alloc bx6.size _) (fun hHeld => ?_)
      clear hK K
      try simp only [Act.put, List.getElem_toArray, List.getElem_cons_zero, List.getElem_cons_succ, List.setIfInBounds_toArray, List.set_cons_zero, List.set_cons_succ]
      refine wpAnyH_ready (rs := [11]) (by kernel_rfl) (by simp) ?_
      refine AllReadyH.cons rfl (fun K hK => ?_) AllReadyH.nil
      have q0 := box_cell w6 0 42
      go_simp
      refine hK.out _ _ (bx6.alloc bx6.size _) (fun hHeld => ?_)
      clear hK K
      try simp only [Act.put, List.getElem_toArray, List.getElem_cons_zero, List.getElem_cons_succ, List.setIfInBounds_toArray, List.set_cons_zero, List.set_cons_succ]
      refine wpAnyH_take (i := 12) (v := ?v10) rfl (by kernel_rfl) (by kernel_rfl) (by kernel_rfl) (fun _ _ _ h => h) (Or.inl ⟨by rfl, ?hy10⟩) (by assumption) ?rest10
      case hy10 => (intro w hSw; (try dsimp only at hSw); go_simp; all_goals (with_reducible rfl))
      simp only [Act.put, List.getElem_toArray, List.getElem_cons_zero, List.getElem_cons_succ, List.setIfInBounds_toArray, List.set_cons_zero, List.set_cons_succ]
      refine wpAnyH_done (by kernel_rfl) ?_ _
      refine NoPanic.normal ?_
      go_wp2
      go_meet
      exact ⟨w6.heap.size, rfl, rfl, box_cell _ _ _, bx6.size, bx6.alloc bx6.size _⟩
    · go_simp
      have ha := hHeld.alloc hHeld.size (.cells #[.int .u64 0] 42)
      refine hK.out _ _ ha (fun hHeld => ?_)
      clear hK K
      try simp only [Act.put, List.getElem_toArray, List.getElem_cons_zero, List.getElem_cons_succ, List.setIfInBounds_toArray, List.set_cons_zero, List.set_cons_succ]
      refine wpAnyH_ready (rs := [6]) (by kernel_rfl) (by simp) ?_
      refine AllReadyH.cons rfl (fun K hK => ?_) AllReadyH.nil
      go_simp
      refine (hcal _ ha).mono ?_
      rintro e w6 ⟨rfl, hb6⟩
      have bx6 := bjoin ha hb6
      have q0 : w6.cell? ⟨w1.heap.size, 0, none⟩ = some (.int .u64 0) := keep_below9 hb6 (box_cell w1.drew 0 42)
      have q1 : w6.frozen? ⟨w1.heap.size, 0, none⟩ = false := (hb6.frozen (by simp)).trans (frozen_of_row _ _ 0 _ _ (heap_alloc_new w1.drew (.cells #[.int .u64 0] 42)))
      dsimp only
      refine hK.out _ _ bx6 (fun hHeld => ?_)
      clear hK K
      try simp only [Act.put, List.getElem_toArray, List.getElem_cons_zero, List.getElem_cons_succ, List.setIfInBounds_toArray, List.set_cons_zero, List.set_cons_succ]
      refine wpAnyH_take (i := 7) (v := ?v11) rfl (by kernel_rfl) (by kernel_rfl) (by kernel_rfl) (fun _ _ _ h => h) (Or.inl ⟨by rfl, ?hy11⟩) (by assumption) ?rest11
      case hy11 => (intro w hSw; (try dsimp only at hSw); go_simp; all_goals (with_reducible rfl))
      simp only [Act.put, List.getElem_toArray, List.getElem_cons_zero, List.getElem_cons_succ, List.setIfInBounds_toArray, List.set_cons_zero, List.set_cons_succ]
      refine wpAnyH_take (i := 8) (v := ?v12) rfl (by kernel_rfl) (by kernel_rfl) (by kernel_rfl) (fun _ _ _ h => h) (Or.inl ⟨by rfl, ?hy12⟩) (by assumption) ?rest12
      case hy12 => (intro w hSw; (try dsimp only at hSw); go_simp; all_goals (with_reducible rfl))
      simp only [Act.put, List.getElem_toArray, List.getElem_cons_zero, List.getElem_cons_succ, List.setIfInBounds_toArray, List.set_cons_zero, List.set_cons_succ]
      refine wpAnyH_take (i := 9) (v := ?v13) rfl (by kernel_rfl) (by kernel_rfl) (by kernel_rfl) (fun _ _ _ h => h) (Or.inl ⟨by rfl, ?hy13⟩) (by assumption) ?rest13
      case hy13 => (intro w hSw; (try dsimp only at hSw); go_simp; all_goals (with_reducible rfl))
      simp only [Act.put, List.getElem_toArray, List.getElem_cons_zero, List.getElem_cons_succ, List.setIfInBounds_toArray, List.set_cons_zero, List.set_cons_succ]
      refine wpAnyH_ready (rs := [11]) (by kernel_rfl) (by simp) ?_
      refine AllReadyH.cons rfl (fun K hK => ?_) AllReadyH.nil
      have bx7 := bx6.setCell (p := ⟨w1.heap.size, 0, none⟩) (Nat.le_refl _) (.int .u64 (z : Nat))
      go_simp
      refine hK.out _ _ bx7 (fun hHeld => ?_)
      clear hK K
      try simp only [Act.put, List.getElem_toArray, List.getElem_cons_zero, List.getElem_cons_succ, List.setIfInBounds_toArray, List.set_cons_zero, List.set_cons_succ]
      refine wpAnyH_take (i := 12) (v := ?v14) rfl (by kernel_rfl) (by kernel_rfl) (by kernel_rfl) (fun _ _ _ h => h) (Or.inl ⟨by rfl, ?hy14⟩) (by assumption) ?rest14
      case hy14 => (intro w hSw; (try dsimp only at hSw); go_simp; all_goals (with_reducible rfl))
      simp only [Act.put, List.getElem_toArray, List.getElem_cons_zero, List.getElem_cons_succ, List.setIfInBounds_toArray, List.set_cons_zero, List.set_cons_succ]
      refine wpAnyH_done (by kernel_rfl) ?_ _
      refine NoPanic.normal ?_
      go_wp2
      go_meet
      exact ⟨w1.heap.size, rfl, rfl, World.cell?_setCell_same _ _ _ q0, Nat.le_refl _, bx7⟩
  case rest =>
  obtain ⟨b5, rfl, rfl, x5, hn5', B4⟩ := hcut
  have Q4 := sta0.st Q1 (Step.ofBelow (I := fun _ => False) o1 B4) (fun _ _ => id) id
  have S4 : Step (fun k => SB B k ∨ (90 ≤ k ∧ k < 300)) w o wc o1 := S1.trans (Step.ofBelow o1 B4)
  have x3' := (B4.cell (p := ⟨b3, 2, none⟩) hltb).trans x3
  have hltb' : b3 < wc.heap.size := Nat.lt_of_lt_of_le hltb B4.size
  have hn5 : b3 < b5 := Nat.lt_of_lt_of_le hltb hn5'
  clear Q1 S1 B4 x3 hltb HX3 hltp c0
  generalize wc = w4 at Q4 S4 x3' hltb' x5 ⊢
  have HX5 : Hid (w4.cell? ⟨b5, 0, none⟩ = some (.int .u64 (z : Nat))) := x5
  clear x5
  go_upto_region 8 with fail
  have x3 := x3'
  have hltb := hltb'
  clear x3' hltb'
  have c1 := sta0.c1 Q4
  have hltp : ps < w4.heap.size := World.block_lt_of_cell? w4 _ c1
  go_cut [7, 8] (fun v7 v8 wx => ∃ b7, v7 = .pointer (some ⟨b7, 0, none⟩) ∧ v8 = .int .i64 r ∧ wx.heap[b7]? = some (.cells (b64 z).toArray 57 (0, 0)) ∧ w4.heap.size ≤ b7 ∧ Below w4.heap.size w4 wx)
  case first =>
    have hcal : ∀ wx, Below w4.heap.size w4 wx → Calls Tryd.prog 18 #[.pointer (some ⟨px, 0, none⟩), .string s] wx fun e w' => e = .returned (.tuple #[av z, .int .i64 r]) ∧ Below wx.heap.size wx w' := fun wx hb => hcal2 wx o1 (sta0.st Q4 (Step.ofBelow (I := fun _ => False) o1 hb) (fun _ _ => id) id)
    clear hcal1 hcal2 Q4 S4 HX5
    unfold av at hcal
    refine wp_region_noPanic ?_
    refine wp_region_held_drew (S := fun wx => Below w4.heap.size w4 wx) (by kernel_rfl) (bdrew9 _) (fun hHeld => ?_)
    refine wpAnyH_take (i := 0) (v := ?v15) rfl (by kernel_rfl) (by kernel_rfl) (by kernel_rfl) (fun _ _ _ h => h) (Or.inl ⟨by rfl, ?hy15⟩) (by assumption) ?rest15
    case hy15 => (intro w hSw; (try dsimp only at hSw); go_simp; all_goals (with_reducible rfl))
    simp only [Act.put, List.getElem_toArray, List.getElem_cons_zero, List.getElem_cons_succ, List.setIfInBounds_toArray, List.set_cons_zero, List.set_cons_succ]
    refine wpAnyH_take (i := 1) (v := ?v16) rfl (by kernel_rfl) (by kernel_rfl) (by kernel_rfl) (fun _ _ _ h => h) (Or.inl ⟨by rfl, ?hy16⟩) (by assumption) ?rest16
    case hy16 => (intro w hSw; (try dsimp only at hSw); go_simp; all_goals (with_reducible rfl))
    simp only [Act.put, List.getElem_toArray, List.getElem_cons_zero, List.getElem_cons_succ, List.setIfInBounds_toArray, List.set_cons_zero, List.set_cons_succ]
    refine wpAnyH_take (i := 2) (v := ?v17) rfl (by kernel_rfl) (by kernel_rfl) (by kernel_rfl) (fun _ _ _ h => h) (Or.inl ⟨by rfl, ?hy17⟩) (by assumption) ?rest17
    case hy17 => (intro w hSw; (try dsimp only at hSw); go_simp; all_goals (with_reducible rfl))
    simp only [Act.put, List.getElem_toArray, List.getElem_cons_zero, List.getElem_cons_succ, List.setIfInBounds_toArray, List.set_cons_zero, List.set_cons_succ]
    refine wpAnyH_take (i := 3) (v := ?v18) rfl (by kernel_rfl) (by kernel_rfl) (by kernel_rfl) (fun _ _ _ h => h) (Or.inl ⟨by rfl, ?hy18⟩) (by assumption) ?rest18
    case hy18 => (intro w hSw; (try dsimp only at hSw); have c5 := (hSw.cell (p := ⟨ps, 1, none⟩) hltp).trans c1; go_simp; all_goals (with_reducible rfl))
    simp only [Act.put, List.getElem_toArray, List.getElem_cons_zero, List.getElem_cons_succ, List.setIfInBounds_toArray, List.set_cons_zero, List.set_cons_succ]
    refine wpAnyH_take (i := 4) (v := ?v19) rfl (by kernel_rfl) (by kernel_rfl) (by kernel_rfl) (fun _ _ _ h => h) (Or.inl ⟨by rfl, ?hy19⟩) (by assumption) ?rest19
    case hy19 => (intro w hSw; (try dsimp only at hSw); go_simp; all_goals (with_reducible rfl))
    simp only [Act.put, List.getElem_toArray, List.getElem_cons_zero, List.getElem_cons_succ, List.setIfInBounds_toArray, List.set_cons_zero, List.set_cons_succ]
    refine wpAnyH_take (i := 5) (v := ?v20) rfl (by kernel_rfl) (by kernel_rfl) (by kernel_rfl) (fun _ _ _ h => h) (Or.inl ⟨by rfl, ?hy20⟩) (by assumption) ?rest20
    case hy20 => (intro w hSw; (try dsimp only at hSw); have c7 := (hSw.cell (p := ⟨b3, 2, none⟩) hltb).trans x3; go_simp; all_goals (with_reducible rfl))
    simp only [Act.put, List.getElem_toArray, List.getElem_cons_zero, List.getElem_cons_succ, List.setIfInBounds_toArray, List.set_cons_zero, List.set_cons_succ]
    refine wpAnyH_ready (rs := [6, 10]) (by kernel_rfl) (by simp) ?_
    refine AllReadyH.cons rfl (fun K hK => ?_) (AllReadyH.cons rfl (fun K hK => ?_) AllReadyH.nil)
    · go_simp
      refine (hcal _ hHeld).mono ?_
      rintro e w6 ⟨rfl, hb6⟩
      have bx6 := bjoin hHeld hb6
      dsimp only
      refine hK.out _ _ bx6 (fun hHeld => ?_)
      clear hK K
      try simp only [Act.put, List.getElem_toArray, List.getElem_cons_zero, List.getElem_cons_succ, List.setIfInBounds_toArray, List.set_cons_zero, List.set_cons_succ]
      refine wpAnyH_take (i := 7) (v := ?v21) rfl (by kernel_rfl) (by kernel_rfl) (by kernel_rfl) (fun _ _ _ h => h) (Or.inl ⟨by rfl, ?hy21⟩) (by assumption) ?rest21
      case hy21 => (intro w hSw; (try dsimp only at hSw); go_simp; all_goals (with_reducible rfl))
      simp only [Act.put, List.getElem_toArray, List.getElem_cons_zero, List.getElem_cons_succ, List.setIfInBounds_toArray, List.set_cons_zero, List.set_cons_succ]
      refine wpAnyH_take (i := 8) (v := ?v22) rfl (by kernel_rfl) (by kernel_rfl) (by kernel_rfl) (fun _ _ _ h => h) (Or.inl ⟨by rfl, ?hy22⟩) (by assumption) ?rest22
      case hy22 => (intro w hSw; (try dsimp only at hSw); go_simp; all_goals (with_reducible rfl))
      simp only [Act.put, List.getElem_toArray, List.getElem_cons_zero, List.getElem_cons_succ, List.setIfInBounds_toArray, List.set_cons_zero, List.set_cons_succ]
      refine wpAnyH_take (i := 9) (v := ?v23) rfl (by kernel_rfl) (by kernel_rfl) (by kernel_rfl) (fun _ _ _ h => h) (Or.inl ⟨by rfl, ?hy23⟩) (by assumption) ?rest23
      case hy23 => (intro w hSw; (try dsimp only at hSw); go_simp; all_goals (with_reducible rfl))
      simp only [Act.put, List.getElem_toArray, List.getElem_cons_zero, List.getElem_cons_succ, List.setIfInBounds_toArray, List.set_cons_zero, List.set_cons_succ]
      refine wpAnyH_ready (rs := [10]) (by kernel_rfl) (by simp) ?_
      refine AllReadyH.cons rfl (fun K hK => ?_) AllReadyH.nil
      rw [if_pos (by rfl)]
      refine wp_alloc99 57 rfl (.agg (b64 0).toArray) (zero9 _) ?_
      simp only [Value.cells]
      have bx7 := bx6.alloc bx6.size (.cells (b64 0).toArray 57)
      refine hK.out _ _ bx7 (fun hHeld => ?_)
      clear hK K
      try simp only [Act.put, List.getElem_toArray, List.getElem_cons_zero, List.getElem_cons_succ, List.setIfInBounds_toArray, List.set_cons_zero, List.set_cons_succ]
      refine wpAnyH_ready (rs := [11]) (by kernel_rfl) (by simp) ?_
      refine AllReadyH.cons rfl (fun K hK => ?_) AllReadyH.nil
      have r7 := heap_alloc_new w6 (.cells (b64 0).toArray 57)
      rw [if_pos (by rfl)]
      refine wp_store_mid _ _ _ rfl w6.heap.size 0 (b64 z).toArray rfl rfl (there9 r7 z) (size9 _) (all_oneCell_toArray (b64_one _)) ?_
      have bx8 := below_setCells bx6.size (b64 z) 0 _ bx7
      have r8 := setCells_row (cs := b64 z) r7 (by rw [b64_len, b64_len])
      refine hK.out _ _ bx8 (fun hHeld => ?_)
      clear hK K
      try simp only [Act.put, List.getElem_toArray, List.getElem_cons_zero, List.getElem_cons_succ, List.setIfInBounds_toArray, List.set_cons_zero, List.set_cons_succ]
      refine wpAnyH_take (i := 12) (v := ?v24) rfl (by kernel_rfl) (by kernel_rfl) (by kernel_rfl) (fun _ _ _ h => h) (Or.inl ⟨by rfl, ?hy24⟩) (by assumption) ?rest24
      case hy24 => (intro w hSw; (try dsimp only at hSw); go_simp; all_goals (with_reducible rfl))
      simp only [Act.put, List.getElem_toArray, List.getElem_cons_zero, List.getElem_cons_succ, List.setIfInBounds_toArray, List.set_cons_zero, List.set_cons_succ]
      refine wpAnyH_done (by kernel_rfl) ?_ _
      refine NoPanic.normal ?_
      go_wp2
      go_meet
      exact ⟨w6.heap.size, rfl, rfl, r8, bx6.size, bx8⟩
    · rw [if_pos (by rfl)]
      refine wp_alloc99 57 rfl (.agg (b64 0).toArray) (zero9 _) ?_
      simp only [Value.cells]
      have ha := hHeld.alloc hHeld.size (.cells (b64 0).toArray 57)
      refine hK.out _ _ ha (fun hHeld => ?_)
      clear hK K
      try simp only [Act.put, List.getElem_toArray, List.getElem_cons_zero, List.getElem_cons_succ, List.setIfInBounds_toArray, List.set_cons_zero, List.set_cons_succ]
      refine wpAnyH_ready (rs := [6]) (by kernel_rfl) (by simp) ?_
      refine AllReadyH.cons rfl (fun K hK => ?_) AllReadyH.nil
      go_simp
      refine (hcal _ ha).mono ?_
      rintro e w6 ⟨rfl, hb6⟩
      have bx6 := bjoin ha hb6
      have r6 : w6.heap[w4.heap.size]? = some (.cells (b64 0).toArray 57 (0, 0)) := (hb6.block w4.heap.size (by simp)).trans (heap_alloc_new w4.drew _)
      dsimp only
      refine hK.out _ _ bx6 (fun hHeld => ?_)
      clear hK K
      try simp only [Act.put, List.getElem_toArray, List.getElem_cons_zero, List.getElem_cons_succ, List.setIfInBounds_toArray, List.set_cons_zero, List.set_cons_succ]
      refine wpAnyH_take (i := 7) (v := ?v25) rfl (by kernel_rfl) (by kernel_rfl) (by kernel_rfl) (fun _ _ _ h => h) (Or.inl ⟨by rfl, ?hy25⟩) (by assumption) ?rest25
      case hy25 => (intro w hSw; (try dsimp only at hSw); go_simp; all_goals (with_reducible rfl))
      simp only [Act.put, List.getElem_toArray, List.getElem_cons_zero, List.getElem_cons_succ, List.setIfInBounds_toArray, List.set_cons_zero, List.set_cons_succ]
      refine wpAnyH_take (i := 8) (v := ?v26) rfl (by kernel_rfl) (by kernel_rfl) (by kernel_rfl) (fun _ _ _ h => h) (Or.inl ⟨by rfl, ?hy26⟩) (by assumption) ?rest26
      case hy26 => (intro w hSw; (try dsimp only at hSw); go_simp; all_goals (with_reducible rfl))
      simp only [Act.put, List.getElem_toArray, List.getElem_cons_zero, List.getElem_cons_succ, List.setIfInBounds_toArray, List.set_cons_zero, List.set_cons_succ]
      refine wpAnyH_take (i := 9) (v := ?v27) rfl (by kernel_rfl) (by kernel_rfl) (by kernel_rfl) (fun _ _ _ h => h) (Or.inl ⟨by rfl, ?hy27⟩) (by assumption) ?rest27
      case hy27 => (intro w hSw; (try dsimp only at hSw); go_simp; all_goals (with_reducible rfl))
      simp only [Act.put, List.getElem_toArray, List.getElem_cons_zero, List.getElem_cons_succ, List.setIfInBounds_toArray, List.set_cons_zero, List.set_cons_succ]
      refine wpAnyH_ready (rs := [11]) (by kernel_rfl) (by simp) ?_
      refine AllReadyH.cons rfl (fun K hK => ?_) AllReadyH.nil
      rw [if_pos (by rfl)]
      refine wp_store_mid _ _ _ rfl w4.heap.size 0 (b64 z).toArray rfl rfl (there9 r6 z) (size9 _) (all_oneCell_toArray (b64_one _)) ?_
      have bx8 := below_setCells (Nat.le_refl w4.heap.size) (b64 z) 0 _ bx6
      have r8 := setCells_row (cs := b64 z) r6 (by rw [b64_len, b64_len])
      refine hK.out _ _ bx8 (fun hHeld => ?_)
      clear hK K
      try simp only [Act.put, List.getElem_toArray, List.getElem_cons_zero, List.getElem_cons_succ, List.setIfInBounds_toArray, List.set_cons_zero, List.set_cons_succ]
      refine wpAnyH_take (i := 12) (v := ?v28) rfl (by kernel_rfl) (by kernel_rfl) (by kernel_rfl) (fun _ _ _ h => h) (Or.inl ⟨by rfl, ?hy28⟩) (by assumption) ?rest28
      case hy28 => (intro w hSw; (try dsimp only at hSw); go_simp; all_goals (with_reducible rfl))
      simp only [Act.put, List.getElem_toArray, List.getElem_cons_zero, List.getElem_cons_succ, List.setIfInBounds_toArray, List.set_cons_zero, List.set_cons_succ]
      refine wpAnyH_done (by kernel_rfl) ?_ _
      refine NoPanic.normal ?_
      go_wp2
      go_meet
      exact ⟨w4.heap.size, rfl, rfl, r8, Nat.le_refl _, bx8⟩
  case rest =>
  obtain ⟨b7, rfl, rfl, r7', hn7', B5⟩ := hcut
  have hn7 : b3 < b7 := Nat.lt_of_lt_of_le hltb hn7'
  have Q5 := sta0.st Q4 (Step.ofBelow (I := fun _ => False) o1 B5) (fun _ _ => id) id
  have S5 : Step (fun k => SB B k ∨ (90 ≤ k ∧ k < 300)) w o wc o1 := S4.trans (Step.ofBelow o1 B5)
  have x5 := keep_below9 B5 HX5.out
  have r7 := range_blk r7'
  clear Q4 S4 B5 x3 hltb HX5 hltp c1 hcal1 hcal2
  generalize wc = w5 at Q5 S5 x5 r7 r7' ⊢
  go_upto_region 9 with fail
  have T5d := (hTz _ _ Q5).step ((Step.refl (fun _ => False) w5 o1).drew) id
  have hall := fun wx ox hh => all_c z wx ox 96 hz hh (by omega)
  have hral := fun wx ox => refAll_c z wx ox 97 hz
  have hal : (al z).length ≤ 5000 := by have := al_len_le z; omega
  have l5 : o1 b5 = 95 := lbn b5 (by omega)
  have l7 : o1 b7 = 95 := lbn b7 (by omega)
  have h5l : b5 < w5.heap.size := World.block_lt_of_cell? w5 _ x5
  have h7l : b7 < w5.heap.size := lt_of_block r7'
  have rng : ∀ {I : Nat → Prop} {wx : World} {ox : Nat → Nat}, Step I w5 o1 wx ox → ¬ I 95 → wx.cell? ⟨b5, 0, none⟩ = some (.int .u64 (z : Nat)) ∧ wx.rangeAt b7 0 (b64 z) := fun {I wx ox} st hn => ⟨(st.cellAt (p := ⟨b5, 0, none⟩) h5l (by show ¬ I (o1 b5); rw [l5]; exact hn)).trans x5, range_blk ((st.block b7 h7l (by rw [l7]; exact hn)).trans r7')⟩
  have HK : Hid (∀ wA oA, Step (fun k => k = 96) w5.drew o1 wA oA → wA.cell? ⟨b5, 0, none⟩ = some (.int .u64 (z : Nat)) ∧ wA.rangeAt b7 0 (b64 z)) := fun wA oA st => rng ((Step.refl (fun k => k = 96) w5 o1).drew.trans st) (by omega)
  have HK2 : Hid (∀ wA oA vA wB oB, Step (fun k => k = 96) w5.drew o1 wA oA → Row wA oA 96 3 1 vA (al z).length (intsL (al z)) → Step (fun k => k = 97) wA oA wB oB → wB.cell? ⟨b5, 0, none⟩ = some (.int .u64 (z : Nat)) ∧ wB.rangeAt b7 0 (b64 z) ∧ (∀ m, StO w o B Q0 (.returned (.bool true)) (wB.drewN m)) ∧ Row wB oB 96 3 1 vA (al z).length (intsL (al z))) := fun wA oA vA wB oB st rA st2 => by
    have s1 := ((Step.refl (fun k => k = 96) w5 o1).drew.trans st).mono (J := fun k => k = 96 ∨ k = 97) (fun k h => Or.inl h)
    have s2 := s1.trans (st2.mono fun k h => Or.inr h)
    obtain ⟨k1, k2⟩ := rng s2 (by omega)
    refine ⟨k1, k2, fun m => ⟨rfl, oB, ?_, (S5.trans (s2.mono fun k h => (by omega : SB B k ∨ (90 ≤ k ∧ k < 300)))).drewN m⟩, rA.step st2 (by omega)⟩
    exact sta0.st (sta0.st Q5 s2 (fun k hk => by unfold SB at hk; omega) (by omega)) ((Step.refl (fun _ => False) wB oB).drewN m) (fun _ _ => id) id
  unfold sv at hall
  unfold av at hral
  clear Q5 S5 rng r7' l5 l7 h5l h7l
  refine wp_region_noPanic ?_
  refine wp_region_held_drew (S := fun wx => wx.cell? ⟨b5, 0, none⟩ = some (.int .u64 (z : Nat)) ∧ wx.rangeAt b7 0 (b64 z)) (by kernel_rfl) ⟨x5, (World.rangeAt_drew _ _ _ _).2 r7⟩ (fun hHeld => ?_)
  refine wpAnyH_take (i := 0) (v := ?v29) rfl (by kernel_rfl) (by kernel_rfl) (by kernel_rfl) (fun _ _ _ h => h) (Or.inl ⟨by rfl, ?hy29⟩) (by assumption) ?rest29
  case hy29 => (intro w hSw; (try dsimp only at hSw); have k0 := hSw.1; go_simp; all_goals (with_reducible rfl))
  simp only [Act.put, List.getElem_toArray, List.getElem_cons_zero, List.getElem_cons_succ, List.setIfInBounds_toArray, List.set_cons_zero, List.set_cons_succ]
  refine wpAnyH_take (i := 2) (v := .agg (b64 z).toArray) rfl (by kernel_rfl) (by kernel_rfl) (by kernel_rfl) (fun _ _ _ h => h) (yieldsIf_load_mid (by rfl) 57 _ rfl b7 (0) rfl (b64 z) _ (fun w hSw => hSw.2) Tryd.underlying57 rfl (sizeSet9 _)) (by assumption) ?_
  simp only [Act.put, List.getElem_toArray, List.getElem_cons_zero, List.getElem_cons_succ, List.setIfInBounds_toArray, List.set_cons_zero, List.set_cons_succ]
  refine wpAnyH_ready (rs := [1]) (by kernel_rfl) (by simp) ?_
  refine AllReadyH.cons rfl (fun K hK => ?_) AllReadyH.nil
  go_simp
  refine (hall _ o1 T5d).mono ?_
  rintro e wA ⟨vA, oA, rfl, rA, sA⟩
  obtain ⟨kA, jA⟩ := HK.out _ _ sA
  dsimp only
  refine hK.out _ _ ⟨kA, jA⟩ (fun hHeld => ?_)
  clear hK K
  try simp only [Act.put, List.getElem_toArray, List.getElem_cons_zero, List.getElem_cons_succ, List.setIfInBounds_toArray, List.set_cons_zero, List.set_cons_succ]
  refine wpAnyH_ready (rs := [3]) (by kernel_rfl) (by simp) ?_
  refine AllReadyH.cons rfl (fun K hK => ?_) AllReadyH.nil
  go_simp
  refine (hral _ oA).mono ?_
  rintro e wB ⟨vB, oB, rfl, rB, sB⟩
  obtain ⟨kB, jB, F1, rX⟩ := HK2.out _ _ _ _ _ sA rA sB
  dsimp only
  refine hK.out _ _ ⟨kB, jB⟩ (fun hHeld => ?_)
  clear hK K
  try simp only [Act.put, List.getElem_toArray, List.getElem_cons_zero, List.getElem_cons_succ, List.setIfInBounds_toArray, List.set_cons_zero, List.set_cons_succ]
  refine wpAnyH_ready (rs := [4]) (by kernel_rfl) (by simp) ?_
  refine AllReadyH.cons rfl (fun K hK => ?_) AllReadyH.nil
  go_simp
  obtain ⟨aX, cX, rfl⟩ := rX.form
  obtain ⟨aY, cY, rfl⟩ := rB.form
  refine (same_r9 wB oB oB 96 97 (al z).length (al z) _ _ rfl hal rX rB).mono ?_
  rintro e wC ⟨rfl, mC, rfl⟩
  dsimp only
  refine hK.out _ _ ⟨kB, jB⟩ (fun hHeld => ?_)
  clear hK K
  try simp only [Act.put, List.getElem_toArray, List.getElem_cons_zero, List.getElem_cons_succ, List.setIfInBounds_toArray, List.set_cons_zero, List.set_cons_succ]
  refine wpAnyH_take (i := 5) (v := ?v30) rfl (by kernel_rfl) (by kernel_rfl) (by kernel_rfl) (fun _ _ _ h => h) (Or.inl ⟨by rfl, ?hy30⟩) (by assumption) ?rest30
  case hy30 => (intro w hSw; (try dsimp only at hSw); go_simp; all_goals (with_reducible rfl))
  simp only [Act.put, List.getElem_toArray, List.getElem_cons_zero, List.getElem_cons_succ, List.setIfInBounds_toArray, List.set_cons_zero, List.set_cons_succ]
  refine wpAnyH_done (by kernel_rfl) ?_ _
  refine NoPanic.normal ?_
  have HR := F1 mC
  clear F1
  go_wp2
  go_ret
  exact HR
theorem step_3 (w : World) (o : Nat → Nat) (B ps : Nat) (hB : 1000 ≤ B) (h : SX B ps w o) (n : Int) (s : ByteArray) (hs : s.size ≤ maxLen) (ao : Option Addr) (len cap : Nat) (ot : Bool) :
    Calls Tryd.prog 6 #[.pointer (some ⟨ps, 0, none⟩), .agg #[.int .i64 3, .int .i64 n, .string s, .slice ao len cap, .bool ot]] w fun e w' => StO w o B (SX B ps) e w' := by
  obtain ⟨pf, px, N, ls, F, m, NL, xs, f, q⟩ := h
  have fin : ∀ w o, SQ B ps pf px N ls F m NL xs m w o → SX B ps w o := fun w o h' => ⟨pf, px, N, ls, F, m, NL, xs, f, h'⟩
  have fam : ∀ {w : World} {o : Nat → Nat}, SQ B ps pf px N ls F m NL xs m w o → Fam w o (B + 1000) pf m F := fun ⟨_, _, _, _, _, h, _⟩ => h
  have rx : ∀ {w : World} {o : Nat → Nat}, SQ B ps pf px N ls F m NL xs m w o → RX w o (B + 1) px m NL xs := fun ⟨_, _, _, _, _, _, h, _⟩ => h
  have tz : ∀ w o, SQ B ps pf px N ls F m NL xs m w o → TzL w o := fun _ _ ⟨_, _, _, _, _, _, _, h, _⟩ => h
  by_cases hin : s ∈ NL
  · obtain ⟨k, hk, e1, e2⟩ := f.at hin
    refine (step_3g w o B ps pf px hB _ (SQ.sta ..) tz q n s ao len cap ot (xs.getD k 0) (f.ok _ _ e2).1 0 (fun wx ox h => get_ok wx ox (B + 1000) pf m F s _ (fam h) hs e2) (fun wx ox h => (refGet_ok wx ox (B + 1) px m NL xs s (rx h) f.le hin).mono fun e w' hA => ?_)).mono fun e w' h => h.mono fin
    obtain ⟨k', hk', e3, e4, e5⟩ := hA
    have e6 := f.inj hk hk' (e1.trans e3.symm)
    subst e6
    exact ⟨e4, e5⟩
  · have hf : F s = none := by
      cases hq : F s with
      | none => rfl
      | some x => exact absurd ((f.mem s).2 (by rw [hq]; rfl)) hin
    exact (step_3g w o B ps pf px hB _ (SQ.sta ..) tz q n s ao len cap ot 0 (by decide) 93 (fun wx ox h => get_no wx ox (B + 1000) pf m F s (fam h) hs hf) (fun wx ox h => refGet_no wx ox (B + 1) px m NL xs s (rx h) f.le hin)).mono fun e w' h => h.mono fin
end Go.Proofs.YtmpkhbblakfglaaDoor
