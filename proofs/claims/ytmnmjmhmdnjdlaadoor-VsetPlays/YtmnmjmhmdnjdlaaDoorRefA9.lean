/- The document's own sets: their numbers, the next one. -/
import Derived.Test.YtmnmjmhmdnjdlaaDoorRefS9
import Derived.Deep.LoopGhost
namespace Go.Proofs.YtmnmjmhmdnjdlaaDoor
open Go.ChangeShapes Go.WideShapes Go.ChangeAt Go.RowKit Go.Maps
set_option linter.unusedVariables false
set_option linter.unusedSimpArgs false

/-- The numbers of x below k. -/
def pre9 (x k : Nat) : List Nat := (List.range k).filter (fun i => x.testBit i)
theorem pre9_all (x : Nat) : pre9 x 64 = al x := by unfold pre9 al els; rw [List.range_eq_range']
theorem pre9_step (x k : Nat) : pre9 x (k + 1) = if x.testBit k then pre9 x k ++ [k] else pre9 x k := by
  unfold pre9
  rw [List.range_succ, List.filter_append]
  cases h : x.testBit k <;> simp [h]
theorem pre9_len (x k : Nat) : (pre9 x k).length ≤ k := by
  unfold pre9
  have := List.length_filter_le (fun i => x.testBit i) (List.range k)
  simpa using this
set_option maxRecDepth 100000 in
set_option maxHeartbeats 4000000 in
theorem refAll_c (x : Nat) (w : World) (o : Nat → Nat) (lb : Nat) (hx : x < top64) :
    Calls Tryd.prog 29 #[av x] w fun e w' => ∃ v o', e = .returned v ∧ Row w' o' lb 3 1 v (al x).length (intsL (al x)) ∧ Step (fun k => k = lb) w o w' o' := by
  obtain ⟨ii, hii, hzi0, hzi1, hzi2⟩ := info_parts infoInt
  have s0 := newStep (fun k => k = lb) w o (lb + 1) (.cells (b64 x).toArray 31)
  have B0 : Blk (w.alloc (.cells (b64 x).toArray 31)) (newLab w o (lb + 1)) (lb + 1) w.heap.size (.cells (b64 x).toArray 31 (0, 0)) := ⟨heap_alloc_new w _, newLab_new (Nat.le_refl _)⟩
  obtain ⟨b1, hb1⟩ : ∃ b, b = w.heap.size := ⟨_, rfl⟩
  rw [← hb1] at B0
  generalize newLab w o (lb + 1) = o1 at s0 B0
  have HG : Hid (∀ i, i < 64 → (b64 x)[i]? = some (.bool (x.testBit i))) := fun i hi => b64_get x hi
  unfold av
  generalize b64 x = cs at *
  go_enter Tryd.func29, Tryd.ntmps29
  go_upto_region 1 with fail
  rw [← hb1]
  generalize w.alloc (.cells cs.toArray 31) = w1 at s0 B0 ⊢
  clear hb1
  go_wp2_with fail
  go_loopg [3, 4] 64 (fun gh vl vi wr => ∃ k o', k ≤ 64 ∧ gh = 64 - k ∧ vi = .int .i64 (k : Nat) ∧ Row wr o' lb 3 1 vl (pre9 x k).length (intsL (pre9 x k)) ∧ Blk wr o' (lb + 1) b1 (.cells cs.toArray 31 (0, 0)) ∧ Step (fun k => k = lb) w o wr o')
  case atStart => exact ⟨0, o1, by omega, by omega, by go_num, Row.nil _ _ _ _ _, B0, s0⟩
  case round =>
    clear B0 s0
    obtain ⟨k, o', hk, rfl, rfl, R, B, S⟩ := hrel
    obtain ⟨av', cv, rfl⟩ := R.form
    by_cases hk64 : k < 64
    · have hkI : (k : Int) < 64 := by omega
      have hpl := pre9_len x k
      have ck : wr.cell? ⟨b1, k, none⟩ = some (.bool (x.testBit k)) := by
        rw [cell_of_row wr b1 k _ _ (0, 0) B.1]
        simpa using HG.out k hk64
      have hst := pre9_step x k
      cases hb : x.testBit k with
      | true =>
        rw [hb] at ck
        rw [hb, if_pos rfl] at hst
        have HST : Hid (pre9 x (k + 1) = pre9 x k ++ [k]) := hst
        clear hst
        go_wp2_with (first | (at_builtin; refine wpList_append_lab rfl (.tmp 13) (.tmp 15) 37 rfl 3 ii (.int .i64 0) 1 8 Tryd.underlying37 hii hzi0 hzi1 hzi2 rfl (by decide) o' lb _ (pre9 x k).length (intsL (pre9 x k)) rfl (R.step (allocStep (fun _ => False) _ o' _) (by simp)) ⟨wr.heap.size, 0, none⟩ 1 1 [.int .i64 (k : Nat)] rfl rfl (new_one _ _ _) ?c2 (by decide) ?c3 ?c4 ?_) | go_in)
        case c2 => intro z hz; simp at hz; subst hz; rfl
        case c3 => unfold maxLen; omega
        case c4 => omega
        intro g7 c7 w7 o7 r7 s7
        have t7 := (allocStep (fun j => j = lb) wr o' _).trans s7
        have HN : Hid (Row w7 o7 lb 3 1 (.slice (some ⟨g7, 0, none⟩) ((pre9 x k).length + 1) c7) (pre9 x (k + 1)).length (intsL (pre9 x (k + 1))) ∧ Blk w7 o7 (lb + 1) b1 (.cells cs.toArray 31 (0, 0)) ∧ Step (fun k => k = lb) w o w7 o7) := by
          refine ⟨?_, B.step t7 (by omega), S.trans t7⟩
          rw [HST.out, List.length_append]
          have e : intsL (pre9 x k ++ [k]) = intsL (pre9 x k) ++ [.int .i64 (k : Nat)] := by simp [intsL]
          rw [e]
          exact r7
        clear r7 s7 t7 R B S ck
        go_wp2
        go_roundg (64 - (k + 1))
        case measure => omega
        case rel => exact ⟨k + 1, o7, by omega, rfl, by go_num, HN.out.1, HN.out.2.1, HN.out.2.2⟩
      | false =>
        rw [hb] at ck
        rw [hb, if_neg (by decide)] at hst
        have HN : Hid (Row wr o' lb 3 1 (.slice av' (pre9 x k).length cv) (pre9 x (k + 1)).length (intsL (pre9 x (k + 1))) ∧ Blk wr o' (lb + 1) b1 (.cells cs.toArray 31 (0, 0)) ∧ Step (fun k => k = lb) w o wr o') := ⟨by rw [hst]; exact R, B, S⟩
        clear R B S hst
        go_wp2
        go_roundg (64 - (k + 1))
        case measure => omega
        case rel => exact ⟨k + 1, o', by omega, rfl, by go_num, HN.out.1, HN.out.2.1, HN.out.2.2⟩
    · obtain rfl : k = 64 := by omega
      have HF : Hid (Row wr o' lb 3 1 (.slice av' (pre9 x 64).length cv) (al x).length (intsL (al x)) ∧ Step (fun k => k = lb) w o wr o') := ⟨by rw [← pre9_all]; exact R, S⟩
      clear R B S
      go_wp2
      go_ret
      exact ⟨_, o', rfl, HF.out.1, HF.out.2⟩
/-- The next one, by its description. -/
theorem nx_is {x : Nat} {n : Int} (hx : x < top64) {i : Nat} (hi : i < 64) (hn : n ≤ (i : Int)) (hb : x.testBit i = true) (hno : ∀ j : Nat, n ≤ (j : Int) → j < i → x.testBit j = false) : nx x n = (i : Int) := by
  rcases nx_spec x n hx with ⟨_, h⟩ | ⟨k, h1, h2, h3, h4, h5⟩
  · rw [h i hn] at hb; cases hb
  · rw [h1]
    rcases Nat.lt_trichotomy i k with q | q | q
    · rw [h5 i hn q] at hb; cases hb
    · rw [q]
    · rw [hno k h3 q] at h4; cases h4
theorem nx_no {x : Nat} {n : Int} (hx : x < top64) (hno : ∀ j : Nat, n ≤ (j : Int) → j < 64 → x.testBit j = false) : nx x n = -1 := by
  rcases nx_spec x n hx with ⟨h, _⟩ | ⟨k, h1, h2, h3, h4, h5⟩
  · exact h
  · rw [hno k h3 h2] at h4; cases h4
set_option maxRecDepth 100000 in
set_option maxHeartbeats 4000000 in
theorem refNext_c (x : Nat) (n : Int) (w : World) (hx : x < top64) (hn1 : -9223372036854775808 ≤ n) (hn2 : n ≤ 9223372036854775807) :
    Calls Tryd.prog 30 #[av x, .int .i64 n] w fun e w' => e = .returned (.int .i64 (nx x n)) ∧ Below w.heap.size w w' := by
  have k0 : (w.alloc (.cells (b64 x).toArray 31)).heap[w.heap.size]? = some (.cells (b64 x).toArray 31 (0, 0)) := heap_alloc_new w _
  have B0 : Below w.heap.size w (w.alloc (.cells (b64 x).toArray 31)) := bal (b0 w) _
  obtain ⟨b1, hb1⟩ : ∃ b, b = w.heap.size := ⟨_, rfl⟩
  rw [← hb1] at k0
  have HG : Hid (∀ i, i < 64 → (b64 x)[i]? = some (.bool (x.testBit i))) := fun i hi => b64_get x hi
  obtain ⟨i0, hi0, hi1⟩ : ∃ i0 : Nat, (i0 : Int) = max n 0 ∧ ∀ j : Nat, n ≤ (j : Int) ↔ i0 ≤ j := ⟨n.toNat, by omega, fun j => by omega⟩
  have HI : Hid (∀ j : Nat, n ≤ (j : Int) ↔ i0 ≤ j) := hi1
  have HM : Hid ((i0 : Int) = max n 0) := hi0
  have hi2 : (i0 : Int) ≤ 9223372036854775807 := by omega
  obtain ⟨r, hr⟩ : ∃ r, r = nx x n := ⟨_, rfl⟩
  have HR : Hid (r = nx x n) := hr
  rw [← hr]
  unfold av
  generalize b64 x = cs at *
  clear hi1 hr
  go_enter Tryd.func30, Tryd.ntmps30
  go_upto_region 1 with fail
  rw [← hb1]
  generalize w.alloc (.cells cs.toArray 31) = w1 at k0 B0 ⊢
  clear hb1
  have HB : Hid (Below w.heap.size w w1) := B0
  go_cut [5] (fun v wx => v = .int .i64 (i0 : Nat) ∧ wx = w1)
  case first =>
    by_cases hneg : n < 0
    · have hnn : n ≤ 0 := by omega
      have e0 : (i0 : Int) = 0 := by omega
      have HE : Hid ((i0 : Int) = 0) := e0
      clear e0 hi0
      go_wp2
      all_goals (go_meet; exact ⟨by rw [HE.out], rfl⟩)
    · have e0 : n = (i0 : Int) := by omega
      have hnn : ¬ (n < 0) := hneg
      have hnn2 : 0 ≤ n := by omega
      have HE : Hid (n = (i0 : Int)) := e0
      clear e0 hi0
      go_wp2
      all_goals (go_meet; exact ⟨by first | rw [HE.out] | (have := HE.out; congr 1; omega), rfl⟩)
  case rest =>
  obtain ⟨rfl, rfl⟩ := hcut
  clear B0 hi0
  go_wp2_with fail
  go_loopg [5] (64 - i0) (fun gh vi wr => ∃ k : Nat, i0 ≤ k ∧ (k : Int) ≤ 9223372036854775807 ∧ gh = 64 - k ∧ vi = .int .i64 (k : Nat) ∧ (∀ j : Nat, i0 ≤ j → j < k → j < 64 → x.testBit j = false) ∧ wr.heap[b1]? = some (.cells cs.toArray 31 (0, 0)) ∧ Below w.heap.size w wr)
  case atStart => exact ⟨i0, by omega, by omega, by omega, by go_num, fun j h1 h2 => by omega, k0, HB.out⟩
  case round =>
    clear k0 HB
    obtain ⟨k, hk0, hk9, rfl, rfl, hno, k0, hBl⟩ := hrel
    have HB : Hid (Below w.heap.size w wr) := hBl
    have HK0 : Hid (wr.heap[b1]? = some (.cells cs.toArray 31 (0, 0))) := k0
    clear hBl
    by_cases hk64 : k < 64
    · have hkI : (k : Int) < 64 := by omega
      have ck : wr.cell? ⟨b1, k, none⟩ = some (.bool (x.testBit k)) := by
        rw [cell_of_row wr b1 k _ _ (0, 0) k0]
        simpa using HG.out k hk64
      cases hb : x.testBit k with
      | true =>
        have HF : Hid (r = (k : Int)) := by
          show _ = _
          rw [HR.out]
          exact nx_is hx hk64 ((HI.out k).2 hk0) hb fun j h1 h2 => hno j ((HI.out j).1 h1) h2 (by omega)
        rw [hb] at ck
        clear hno
        go_wp2
        go_ret
        exact ⟨by rw [HF.out]; rfl, HB.out⟩
      | false =>
        have HN : Hid (∀ j : Nat, i0 ≤ j → j < k + 1 → j < 64 → x.testBit j = false) := fun j h1 h2 h3 => by
          by_cases e : j = k
          · subst e; exact hb
          · exact hno j h1 (by omega) h3
        rw [hb] at ck
        clear hno
        go_wp2
        go_roundg (64 - (k + 1))
        case measure => omega
        case rel => exact ⟨k + 1, by omega, by omega, rfl, by go_num, HN.out, HK0.out, HB.out⟩
    · have hkI : ¬ ((k : Int) < 64) := by omega
      have HF : Hid (r = -1) := by
        show _ = _
        rw [HR.out]
        exact nx_no hx fun j h1 h2 => hno j ((HI.out j).1 h1) (by omega) h2
      clear hno
      go_wp2
      go_ret
      exact ⟨by rw [HF.out]; rfl, HB.out⟩
end Go.Proofs.YtmnmjmhmdnjdlaaDoor
