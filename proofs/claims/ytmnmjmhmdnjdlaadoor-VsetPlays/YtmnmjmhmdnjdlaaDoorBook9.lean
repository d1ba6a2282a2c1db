/- The book of VsetPlays: four sets of the program's, four of the document's; a set is laid there. -/
import Derived.Test.YtmnmjmhmdnjdlaaDoorRefF9
import Derived.Test.YtmnmjmhmdnjdlaaDoorRefA9
import Derived.Test.YtmnmjmhmdnjdlaaDoorBoxes
namespace Go.Proofs.YtmnmjmhmdnjdlaaDoor
open Go.ChangeShapes Go.WideShapes Go.ChangeAt Go.RowKit Go.Maps
set_option linter.unusedVariables false
set_option linter.unusedSimpArgs false

/-- The book in memory: the program's sets S, the document's X, the two lists of lists. -/
structure Bk (w : World) (p : Nat) (S X : Nat → Nat) (va vw : Value) : Prop where
  s : ∀ i, i < 4 → w.cell? ⟨p, i, none⟩ = some (.int .u64 (S i : Nat))
  x : ∀ i, i < 4 → w.rangeAt p (4 + i * 64) (b64 (X i))
  a : w.cell? ⟨p, 260, none⟩ = some va
  v : w.cell? ⟨p, 261, none⟩ = some vw
  f : ∀ j, w.frozen? ⟨p, j, none⟩ = false
theorem Bk.lt {w : World} {p : Nat} {S X : Nat → Nat} {va vw : Value} (h : Bk w p S X va vw) : p < w.heap.size := World.block_lt_of_cell? w ⟨p, 260, none⟩ h.a
theorem frozen_blk {w w' : World} {p : Nat} (h : w'.heap[p]? = w.heap[p]?) (j : Nat) : w'.frozen? ⟨p, j, none⟩ = w.frozen? ⟨p, j, none⟩ := World.frozen?_of_block (w := w) h
theorem cell_blk {w w' : World} {p : Nat} (h : w'.heap[p]? = w.heap[p]?) (j : Nat) : w'.cell? ⟨p, j, none⟩ = w.cell? ⟨p, j, none⟩ := World.cell?_of_block (w := w) h
theorem Bk.blk {w w' : World} {p : Nat} {S X : Nat → Nat} {va vw : Value} (h : Bk w p S X va vw) (e : w'.heap[p]? = w.heap[p]?) : Bk w' p S X va vw :=
  ⟨fun i hi => (cell_blk e i).trans (h.s i hi), fun i hi j v hv => (cell_blk e _).trans (h.x i hi j v hv), (cell_blk e _).trans h.a, (cell_blk e _).trans h.v, fun j => (frozen_blk e j).trans (h.f j)⟩
theorem Bk.below {w w' : World} {p : Nat} {S X : Nat → Nat} {va vw : Value} (h : Bk w p S X va vw) (b : Below w.heap.size w w') : Bk w' p S X va vw := h.blk (b.block p h.lt)
theorem Bk.step {I : Nat → Prop} {w w' : World} {o o' : Nat → Nat} {p : Nat} {S X : Nat → Nat} {va vw : Value} (h : Bk w p S X va vw) (s : Step I w o w' o') (hi : ¬ I (o p)) : Bk w' p S X va vw := h.blk (s.block p h.lt hi)
theorem Bk.there {w : World} {p : Nat} {S X : Nat → Nat} {va vw : Value} (h : Bk w p S X va vw) (i : Nat) (hi : i < 4) : w.there p (4 + i * 64) 64 := fun j hj => by
  refine ⟨?_, h.f _⟩
  rw [h.x i hi j _ (b64_get (X i) hj)]; rfl
/-- One of S is laid anew. -/
theorem Bk.setS {w : World} {p : Nat} {S X : Nat → Nat} {va vw : Value} (h : Bk w p S X va vw) (i y : Nat) (hi : i < 4) : Bk (w.setCell ⟨p, i, none⟩ (.int .u64 (y : Nat))) p (fun j => if j = i then y else S j) X va vw := by
  have hne : ∀ j, j ≠ i → (w.setCell ⟨p, i, none⟩ (.int .u64 (y : Nat))).cell? ⟨p, j, none⟩ = w.cell? ⟨p, j, none⟩ := fun j hj => World.cell?_setCell_other _ _ _ _ (fun e => hj (by injection e with _ e2; exact e2.symm))
  refine ⟨fun j hj => ?_, fun j hj k v hv => ?_, ?_, ?_, fun j => ?_⟩
  · by_cases e : j = i
    · subst e; rw [if_pos rfl]; exact World.cell?_setCell_same _ _ _ (h.s j hj)
    · rw [if_neg e, hne j e]; exact h.s j hj
  · rw [hne _ (by omega)]; exact h.x j hj k v hv
  · rw [hne _ (by omega)]; exact h.a
  · rw [hne _ (by omega)]; exact h.v
  · rw [World.frozen?_setCell]; exact h.f j
/-- One of X is laid anew. -/
theorem Bk.setX {w : World} {p : Nat} {S X : Nat → Nat} {va vw : Value} (h : Bk w p S X va vw) (i y : Nat) (hi : i < 4) : Bk (w.setCells p (4 + i * 64) (b64 y)) p S (fun j => if j = i then y else X j) va vw := by
  have hl := b64_len y
  have hne : ∀ j, j < 4 + i * 64 ∨ 4 + i * 64 + 64 ≤ j → (w.setCells p (4 + i * 64) (b64 y)).cell? ⟨p, j, none⟩ = w.cell? ⟨p, j, none⟩ := fun j hj => World.cell?_setCells_out p (b64 y) _ w ⟨p, j, none⟩ (fun _ _ => by
    rcases hj with q | q
    · exact .inl q
    · exact .inr (by rw [hl]; exact q))
  refine ⟨fun j hj => ?_, fun j hj => ?_, ?_, ?_, fun j => ?_⟩
  · rw [hne j (.inl (by omega))]; exact h.s j hj
  · by_cases e : j = i
    · subst e
      rw [if_pos rfl]
      exact World.rangeAt_setCells_same _ _ _ _ (by rw [hl]; exact h.there j hj)
    · rw [if_neg e]
      exact World.rangeAt_setCells_apart (h.x j hj) _ _ _ (.inr (by rw [b64_len, hl]; omega))
  · rw [hne _ (.inr (by omega))]; exact h.a
  · rw [hne _ (.inr (by omega))]; exact h.v
  · rw [World.frozen?_setCells]; exact h.f j
theorem setCells_step (I : Nat → Prop) (o : Nat → Nat) (b : Nat) (hb : I (o b)) : ∀ (cs : List Value) (k : Nat) (a w : World) (o0' : Nat → Nat), Step I a o0' w o → Step I a o0' (w.setCells b k cs) o
  | [], _, _, _, _, s => s
  | v :: r, k, a, w, o0', s => by
    rw [World.setCells]
    exact setCells_step I o b hb r (k + 1) a _ o0' (s.setCell ⟨b, k, none⟩ v hb)
theorem keep_below {w w' : World} (b : Below w.heap.size w w') {p : Addr} {v : Value} (h : w.cell? p = some v) : w'.cell? p = some v := (b.cell (World.block_lt_of_cell? w p h)).trans h
theorem keep_range {w w' : World} (b : Below w.heap.size w w') {p k : Nat} {cs : List Value} (h : w.rangeAt p k cs) : w'.rangeAt p k cs := fun j v hv => keep_below b (h j v hv)
theorem keep_there {w w' : World} (b : Below w.heap.size w w') {p k n : Nat} (h : w.there p k n) : w'.there p k n := fun j hj => by
  obtain ⟨h1, h2⟩ := h j hj
  obtain ⟨u, hu⟩ := Option.isSome_iff_exists.1 h1
  have hlt := World.block_lt_of_cell? w _ hu
  exact ⟨by rw [keep_below b hu]; rfl, (frozen_blk (b.block p hlt) _).trans h2⟩
/-- The load and the store of 64 cells, as the walk leaves them. -/
theorem load9 (W : World) (b k x : Nat) (h : W.rangeAt b k (b64 x)) : (loadCellsFrom ⟨b, k, none⟩ 0 64 #[]).run Tryd.prog W = .ok (b64 x).toArray W := by
  have := run_loadCells_list (P := Tryd.prog) W ⟨b, k, none⟩ (b64 x) (fun j v hv => by rw [Addr.add_mid]; exact h j v hv)
  rw [b64_len] at this
  simpa [loadCells] using this
theorem store9 (W : World) (b k x : Nat) (h : W.there b k 64) : (storeCells ⟨b, k, none⟩ (b64 x) 0).run Tryd.prog W = .ok () (W.setCells b k (b64 x)) := by
  have := run_storeCells_cells (P := Tryd.prog) b k (b64 x) 0 W (fun j hj => by simpa using (h j (by rw [b64_len] at hj; exact hj)).1) (fun j hj => by simpa using (h j (by rw [b64_len] at hj; exact hj)).2) (b64_one x)
  simpa using this
/-- What laying gives. -/
def LayOut (w : World) (o : Nat → Nat) (p : Nat) (S X : Nat → Nat) (va vw : Value) (e : Ending) (w' : World) : Prop := e = .returned (.bool true) ∧ Bk w' p S X va vw ∧ Step (fun k => k = 1) w o w' o
set_option maxRecDepth 100000 in
set_option maxHeartbeats 4000000 in
theorem lays_no (w : World) (o : Nat → Nat) (p i x : Nat) (S X : Nat → Nat) (va vw : Value) (h : Bk w p S X va vw) :
    Calls Tryd.prog 18 #[.pointer (some ⟨p, 0, none⟩), .int .i64 (i : Nat), sv 0, .int .i64 1, av x, .int .i64 1] w fun e w' => LayOut w o p S X va vw e w' := by
  have B1 : Below w.heap.size w ((w.alloc (.cells #[.int .u64 0] 27)).alloc (.cells (b64 x).toArray 31)) := bal (bal (b0 w) _) _
  have HF : Hid (LayOut w o p S X va vw (.returned (.bool true)) ((w.alloc (.cells #[.int .u64 0] 27)).alloc (.cells (b64 x).toArray 31))) := ⟨rfl, h.below B1, Step.ofBelow o B1⟩
  unfold av sv
  clear h B1
  go_enter Tryd.func18, Tryd.ntmps18
  go_wp2
  go_ret
  exact HF.out
set_option maxRecDepth 100000 in
set_option maxHeartbeats 4000000 in
theorem lays_ok (w : World) (o : Nat → Nat) (p i s x : Nat) (S X : Nat → Nat) (va vw : Value) (h : Bk w p S X va vw) (hop : o p = 1) (hi : i < 4) :
    Calls Tryd.prog 18 #[.pointer (some ⟨p, 0, none⟩), .int .i64 (i : Nat), sv s, .int .i64 0, av x, .int .i64 0] w fun e w' => LayOut w o p (fun j => if j = i then s else S j) (fun j => if j = i then x else X j) va vw e w' := by
  obtain ⟨w2, hw2⟩ : ∃ w2, w2 = (w.alloc (.cells #[.int .u64 (s : Nat)] 27)).alloc (.cells (b64 x).toArray 31) := ⟨_, rfl⟩
  obtain ⟨b8, hb8⟩ : ∃ b, b = w.heap.size := ⟨_, rfl⟩
  obtain ⟨b10, hb10⟩ : ∃ b, b = w.heap.size + 1 := ⟨_, rfl⟩
  have B1 : Below w.heap.size w w2 := by rw [hw2]; exact bal (bal (b0 w) _) _
  have e8 : w2.cell? ⟨b8, 0, none⟩ = some (.int .u64 (s : Nat)) := by
    subst hw2 hb8
    rw [World.cell?_alloc_lt _ _ _ (by simp)]; exact box_cell _ _ _
  have e10 : w2.heap[b10]? = some (.cells (b64 x).toArray 31 (0, 0)) := by
    subst hw2 hb10
    have := heap_alloc_new (w.alloc (.cells #[.int .u64 (s : Nat)] 27)) (.cells (b64 x).toArray 31)
    simpa using this
  have K2 := h.below B1
  have S2 : Step (fun k => k = 1) w o w2 o := Step.ofBelow o B1
  have hpl := h.lt
  have n8 : b8 ≠ p := by omega
  have n10 : b10 ≠ p := by omega
  have HW : Hid (w2 = (w.alloc (.cells #[.int .u64 (s : Nat)] 27)).alloc (.cells (b64 x).toArray 31) ∧ b8 = w.heap.size ∧ b10 = w.heap.size + 1) := ⟨hw2, hb8, hb10⟩
  have hiI : (i : Int) < 4 := by omega
  unfold av sv
  clear h B1 hw2 hb8 hb10 hpl
  go_enter Tryd.func18, Tryd.ntmps18
  go_upto_region 1 with fail
  rw [← HW.out.1, ← HW.out.2.2, ← HW.out.2.1]
  clear HW
  go_upto_region 4 with fail
  have ci := K2.s i hi
  have fi := K2.f i
  go_cut [] (fun wx => wx.heap[b10]? = some (.cells (b64 x).toArray 31 (0, 0)) ∧ Bk wx p (fun j => if j = i then s else S j) X va vw ∧ Step (fun k => k = 1) w o wx o)
  case first =>
    have K3 := K2.setS i s hi
    have h8 : (w2.setCell ⟨p, i, none⟩ (.int .u64 (s : Nat))).drew.cell? ⟨b8, 0, none⟩ = some (.int .u64 (s : Nat)) := by
      show (w2.setCell ⟨p, i, none⟩ (.int .u64 (s : Nat))).cell? ⟨b8, 0, none⟩ = _
      rw [World.cell?_setCell_other _ _ _ _ (fun e => n8 (by injection e with e1 _; exact e1.symm))]; exact e8
    have HF : Hid ((w2.setCell ⟨p, i, none⟩ (.int .u64 (s : Nat))).drew.heap[b10]? = some (.cells (b64 x).toArray 31 (0, 0)) ∧ Bk (w2.setCell ⟨p, i, none⟩ (.int .u64 (s : Nat))).drew p (fun j => if j = i then s else S j) X va vw ∧ Step (fun k => k = 1) w o (w2.setCell ⟨p, i, none⟩ (.int .u64 (s : Nat))).drew o) := by
      refine ⟨?_, K3.blk rfl, (S2.setCell ⟨p, i, none⟩ _ hop).drew⟩
      show (w2.setCell ⟨p, i, none⟩ (.int .u64 (s : Nat))).heap[b10]? = _
      rw [Below.heap_setCell _ _ _ _ n10]; exact e10
    clear K3 K2 S2 e10
    generalize S i = si at ci
    go_region_held3 (fun wx => wx.cell? ⟨b8, 0, none⟩ = some (.int .u64 (s : Nat))) (first | exact h8 | go_keep) (fail)
    go_wp2
    go_meet
    exact HF.out
  case rest =>
  obtain ⟨k10, K3, S3⟩ := hcut
  clear K2 S2 e8 e10 ci fi
  generalize wc = w3 at k10 K3 S3 ⊢
  have r10 : w3.rangeAt b10 0 (b64 x) := range_blk k10
  have dre : ∀ W : World, W.drew.heap[p]? = W.heap[p]? := fun _ => rfl
  have th := K3.there i hi
  have K4 := (K3.blk (dre w3)).setX i x hi
  have r11 : (w3.drew.setCells p (4 + i * 64) (b64 x)).rangeAt b10 0 (b64 x) := World.rangeAt_setCells_apart ((World.rangeAt_drew _ _ _ _).2 r10) p (4 + i * 64) (b64 x) (.inl n10)
  have t11 : (w3.drew.setCells p (4 + i * 64) (b64 x)).there p (4 + i * 64) 64 := World.there_setCells ((World.there_drew _ _ _ _).2 th) p (4 + i * 64) (b64 x)
  have HF : Hid (LayOut w o p (fun j => if j = i then s else S j) (fun j => if j = i then x else X j) va vw (.returned (.bool true)) (w3.drew.setCells p (4 + i * 64) (b64 x))) := ⟨rfl, K4, setCells_step (fun k => k = 1) o p hop (b64 x) (4 + i * 64) w w3.drew o S3.drew⟩
  clear K3 K4 S3 k10 dre
  go_upto_region 5 with fail
  refine wp_region_noPanic ?_
  refine wp_region_held_drew (S := fun wx => wx.rangeAt b10 0 (b64 x) ∧ wx.there p (4 + i * 64) 64) (by kernel_rfl) ⟨(World.rangeAt_drew _ _ _ _).2 r10, (World.there_drew _ _ _ _).2 th⟩ (fun hHeld => ?_)
  refine wpAnyH_take (i := 0) (v := ?v1) rfl (by kernel_rfl) (by kernel_rfl) (by kernel_rfl) (fun _ _ _ h => h) (Or.inl ⟨by rfl, ?hy1⟩) (by assumption) ?rest1
  case hy1 => (intro w hSw; (try dsimp only at hSw); go_simp; all_goals (with_reducible rfl))
  simp only [Act.put, List.getElem_toArray, List.getElem_cons_zero, List.getElem_cons_succ, List.setIfInBounds_toArray, List.set_cons_zero, List.set_cons_succ]
  refine wpAnyH_take (i := 1) (v := ?v2) rfl (by kernel_rfl) (by kernel_rfl) (by kernel_rfl) (fun _ _ _ h => h) (Or.inl ⟨by rfl, ?hy2⟩) (by assumption) ?rest2
  case hy2 => (intro w hSw; (try dsimp only at hSw); go_simp; all_goals (with_reducible rfl))
  simp only [Act.put, List.getElem_toArray, List.getElem_cons_zero, List.getElem_cons_succ, List.setIfInBounds_toArray, List.set_cons_zero, List.set_cons_succ]
  refine wpAnyH_take (i := 2) (v := .agg (b64 x).toArray) rfl (by kernel_rfl) (by kernel_rfl) (by kernel_rfl) (fun _ _ _ h => h) (yieldsIf_load_mid (by rfl) 31 _ rfl b10 (0) rfl (b64 x) _ (fun w hSw => hSw.1) Tryd.underlying31 rfl (sizeSet9 x)) (by assumption) ?_
  simp only [Act.put, List.getElem_toArray, List.getElem_cons_zero, List.getElem_cons_succ, List.setIfInBounds_toArray, List.set_cons_zero, List.set_cons_succ]
  refine wpAnyH_take (i := 3) (v := ?v3) rfl (by kernel_rfl) (by kernel_rfl) (by kernel_rfl) (fun _ _ _ h => h) (Or.inl ⟨by rfl, ?hy3⟩) (by assumption) ?rest3
  case hy3 => (intro w hSw; (try dsimp only at hSw); go_simp; all_goals (with_reducible rfl))
  simp only [Act.put, List.getElem_toArray, List.getElem_cons_zero, List.getElem_cons_succ, List.setIfInBounds_toArray, List.set_cons_zero, List.set_cons_succ]
  refine wpAnyH_take (i := 4) (v := ?v4) rfl (by kernel_rfl) (by kernel_rfl) (by kernel_rfl) (fun _ _ _ h => h) (Or.inl ⟨by rfl, ?hy4⟩) (by assumption) ?rest4
  case hy4 => (intro w hSw; (try dsimp only at hSw); go_simp; all_goals (with_reducible rfl))
  simp only [Act.put, List.getElem_toArray, List.getElem_cons_zero, List.getElem_cons_succ, List.setIfInBounds_toArray, List.set_cons_zero, List.set_cons_succ]
  refine wpAnyH_take (i := 5) (v := ?v5) rfl (by kernel_rfl) (by kernel_rfl) (by kernel_rfl) (fun _ _ _ h => h) (Or.inl ⟨by rfl, ?hy5⟩) (by assumption) ?rest5
  case hy5 => (intro w hSw; (try dsimp only at hSw); go_simp; all_goals (with_reducible rfl))
  simp only [Act.put, List.getElem_toArray, List.getElem_cons_zero, List.getElem_cons_succ, List.setIfInBounds_toArray, List.set_cons_zero, List.set_cons_succ]
  refine wpAnyH_ready (rs := [6]) (by kernel_rfl) (by simp) ?_
  refine AllReadyH.cons rfl (fun K hK => ?_) AllReadyH.nil
  rw [if_pos (by rfl)]
  refine wp_store_mid _ _ _ rfl p (4 + i * 64) (b64 x).toArray rfl rfl (by simpa [b64_len] using hHeld.2) (size9 _) (all_oneCell_toArray (b64_one _)) ?_
  refine hK.out _ _ (⟨r11, t11⟩) (fun hHeld => ?_)
  clear hK K
  simp only [Act.put, List.getElem_toArray, List.getElem_cons_zero, List.getElem_cons_succ, List.setIfInBounds_toArray, List.set_cons_zero, List.set_cons_succ]
  refine wpAnyH_done (by kernel_rfl) ?_ _
  refine NoPanic.normal ?_
  go_wp2
  go_ret
  exact HF.out
end Go.Proofs.YtmnmjmhmdnjdlaaDoor
