/- The document's own sets: their numbers, the next one. -/
import Derived.Test.YtmpkhbblakfglaaDoorRefS9
import Derived.Deep.LoopGhost
namespace Go.Proofs.YtmpkhbblakfglaaDoor
open Go.ChangeShapes Go.WideShapes Go.ChangeAt Go.RowKit Go.Maps
set_option linter.unusedVariables false
set_option linter.unusedSimpArgs false

/-- The numbers of x below k. -/
def pre9 (x k : Nat) : List Nat := (List.range k).filter (fun i => x.testBit i)
theorem pre9_all (x : Nat) : pre9 x 64 = al x := by unfold pre9 al els; rw [List.range_eq_range']
theorem pre9_step (x k : Nat) : pre9 x (k + 1) = if x.testBit k then pre9 x k ++ [k] else pre9 x k := by
  unfold pre9
  rw [List.range_succ, List.filter_append]
  cases h : x.testBit k <;> simp [h]
theorem pre9_len (x k : Nat) : (pre9 x k).length ≤ k := by
  unfold pre9
  have := List.length_filter_le (fun i => x.testBit i) (List.range k)
  simpa using this
set_option maxRecDepth 100000 in
set_option maxHeartbeats 4000000 in
theorem refAll_c (x : Nat) (w : World) (o : Nat → Nat) (lb : Nat) (hx : x < top64) :
    Calls Tryd.prog 19 #[av x] w fun e w' => ∃ v o', e = .returned v ∧ Row w' o' lb 3 1 v (al x).length (intsL (al x)) ∧ Step (fun k => k = lb) w o w' o' := by
  obtain ⟨ii, hii, hzi0, hzi1, hzi2⟩ := info_parts infoInt
  have s0 := newStep (fun k => k = lb) w o (lb + 1) (.cells (b64 x).toArray 57)
  have B0 : Blk (w.alloc (.cells (b64 x).toArray 57)) (newLab w o (lb + 1)) (lb + 1) w.heap.size (.cells (b64 x).toArray 57 (0, 0)) := ⟨heap_alloc_new w _, newLab_new (Nat.le_refl _)⟩
  obtain ⟨b1, hb1⟩ : ∃ b, b = w.heap.size := ⟨_, rfl⟩
  rw [← hb1] at B0
  generalize newLab w o (lb + 1) = o1 at s0 B0
  have HG : Hid (∀ i, i < 64 → (b64 x)[i]? = some (.bool (x.testBit i))) := fun i hi => b64_get x hi
  unfold av
  generalize b64 x = cs at *
  go_enter Tryd.func19, Tryd.ntmps19
  go_upto_region 1 with fail
  rw [← hb1]
  generalize w.alloc (.cells cs.toArray 57) = w1 at s0 B0 ⊢
  clear hb1
  go_wp2_with fail
  go_loopg [3, 4] 64 (fun gh vl vi wr => ∃ k o', k ≤ 64 ∧ gh = 64 - k ∧ vi = .int .i64 (k : Nat) ∧ Row wr o' lb 3 1 vl (pre9 x k).length (intsL (pre9 x k)) ∧ Blk wr o' (lb + 1) b1 (.cells cs.toArray 57 (0, 0)) ∧ Step (fun k => k = lb) w o wr o')
  case atStart => exact ⟨0, o1, by omega, by omega, by go_num, Row.nil _ _ _ _ _, B0, s0⟩
  case round =>
    clear B0 s0
    obtain ⟨k, o', hk, rfl, rfl, R, B, S⟩ := hrel
    obtain ⟨av', cv, rfl⟩ := R.form
    by_cases hk64 : k < 64
    · have hkI : (k : Int) < 64 := by omega
      have hpl := pre9_len x k
      have ck : wr.cell? ⟨b1, k, none⟩ = some (.bool (x.testBit k)) := by
        rw [cell_of_row wr b1 k _ _ (0, 0) B.1]
        simpa using HG.out k hk64
      have hst := pre9_step x k
      cases hb : x.testBit k with
      | true =>
        rw [hb] at ck
        rw [hb, if_pos rfl] at hst
        have HST : Hid (pre9 x (k + 1) = pre9 x k ++ [k]) := hst
        clear hst
        go_wp2_with (first | (at_builtin; refine wpList_append_lab rfl (.tmp 13) (.tmp 15) 35 rfl 3 ii (.int .i64 0) 1 8 Tryd.underlying35 hii hzi0 hzi1 hzi2 rfl (by decide) o' lb _ (pre9 x k).length (intsL (pre9 x k)) rfl (R.step (allocStep (fun _ => False) _ o' _) (by simp)) ⟨wr.heap.size, 0, none⟩ 1 1 [.int .i64 (k : Nat)] rfl rfl (new_one _ _ _) ?c2 (by decide) ?c3 ?c4 ?_) | go_in)
        case c2 => intro z hz; simp at hz; subst hz; rfl
        case c3 => unfold maxLen; omega
        case c4 => omega
        intro g7 c7 w7 o7 r7 s7
        have t7 := (allocStep (fun j => j = lb) wr o' _).trans s7
        have HN : Hid (Row w7 o7 lb 3 1 (.slice (some ⟨g7, 0, none⟩) ((pre9 x k).length + 1) c7) (pre9 x (k + 1)).length (intsL (pre9 x (k + 1))) ∧ Blk w7 o7 (lb + 1) b1 (.cells cs.toArray 57 (0, 0)) ∧ Step (fun k => k = lb) w o w7 o7) := by
          refine ⟨?_, B.step t7 (by omega), S.trans t7⟩
          rw [HST.out, List.length_append]
          have e : intsL (pre9 x k ++ [k]) = intsL (pre9 x k) ++ [.int .i64 (k : Nat)] := by simp [intsL]
          rw [e]
          exact r7
        clear r7 s7 t7 R B S ck
        go_wp2
        go_roundg (64 - (k + 1))
        case measure => omega
        case rel => exact ⟨k + 1, o7, by omega, rfl, by go_num, HN.out.1, HN.out.2.1, HN.out.2.2⟩
      | false =>
        rw [hb] at ck
        rw [hb, if_neg (by decide)] at hst
        have HN : Hid (Row wr o' lb 3 1 (.slice av' (pre9 x k).length cv) (pre9 x (k + 1)).length (intsL (pre9 x (k + 1))) ∧ Blk wr o' (lb + 1) b1 (.cells cs.toArray 57 (0, 0)) ∧ Step (fun k => k = lb) w o wr o') := ⟨by rw [hst]; exact R, B, S⟩
        clear R B S hst
        go_wp2
        go_roundg (64 - (k + 1))
        case measure => omega
        case rel => exact ⟨k + 1, o', by omega, rfl, by go_num, HN.out.1, HN.out.2.1, HN.out.2.2⟩
    · obtain rfl : k = 64 := by omega
      have HF : Hid (Row wr o' lb 3 1 (.slice av' (pre9 x 64).length cv) (al x).length (intsL (al x)) ∧ Step (fun k => k = lb) w o wr o') := ⟨by rw [← pre9_all]; exact R, S⟩
      clear R B S
      go_wp2
      go_ret
      exact ⟨_, o', rfl, HF.out.1, HF.out.2⟩
/-- The next one, by its description. -/
theorem nx_is {x : Nat} {n : Int} (hx : x < top64) {i : Nat} (hi : i < 64) (hn : n ≤ (i : Int)) (hb : x.testBit i = true) (hno : ∀ j : Nat, n ≤ (j : Int) → j < i → x.testBit j = false) : nx x n = (i : Int) := by
  rcases nx_spec x n hx with ⟨_, h⟩ | ⟨k, h1, h2, h3, h4, h5⟩
  · rw [h i hn] at hb; cases hb
  · rw [h1]
    rcases Nat.lt_trichotomy i k with q | q | q
    · rw [h5 i hn q] at hb; cases hb
    · rw [q]
    · rw [hno k h3 q] at h4; cases h4
theorem nx_no {x : Nat} {n : Int} (hx : x < top64) (hno : ∀ j : Nat, n ≤ (j : Int) → j < 64 → x.testBit j = false) : nx x n = -1 := by
  rcases nx_spec x n hx with ⟨h, _⟩ | ⟨k, h1, h2, h3, h4, h5⟩
  · exact h
  · rw [hno k h3 h2] at h4; cases h4
end Go.Proofs.YtmpkhbblakfglaaDoor
