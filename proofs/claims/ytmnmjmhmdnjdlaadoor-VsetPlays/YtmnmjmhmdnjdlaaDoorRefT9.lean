/- The document's own sets: of two sets; of a list. -/
import Derived.Test.YtmnmjmhmdnjdlaaDoorRefS9
import Derived.Deep.LoopGhost
import Derived.Great.Ranges
import Derived.Deep.WholeRow
namespace Go.Proofs.YtmnmjmhmdnjdlaaDoor
open Go.ChangeShapes Go.WideShapes Go.ChangeAt Go.RowKit Go.Maps
set_option linter.unusedVariables false
set_option linter.unusedSimpArgs false

/-- Half done: the first k of z, nought behind. -/
def half9 (z k : Nat) : List Value := (b64 z).take k ++ (b64 0).drop k
theorem half9_len (z k : Nat) (hk : k ≤ 64) : (half9 z k).length = 64 := by
  unfold half9
  rw [List.length_append, List.length_take, List.length_drop, b64_len, b64_len]; omega
theorem half9_zero (z : Nat) : half9 z 0 = b64 0 := by simp [half9]
theorem half9_all (z : Nat) : half9 z 64 = b64 z := by
  unfold half9
  rw [List.take_of_length_le (by rw [b64_len]; omega), List.drop_eq_nil_of_le (by rw [b64_len]; omega), List.append_nil]
theorem half9_set (z k : Nat) (hk : k < 64) : (half9 z k).set k (.bool (z.testBit k)) = half9 z (k + 1) := by
  unfold half9
  have h1 : ((b64 z).take k).length = k := by rw [List.length_take, b64_len]; omega
  have h2 : (b64 z)[k]? = some (.bool (z.testBit k)) := b64_get z hk
  obtain ⟨h3, h4⟩ := List.getElem?_eq_some_iff.1 h2
  rw [List.set_append_right _ _ (by omega), h1, Nat.sub_self, List.take_succ_eq_append_getElem h3, h4, List.drop_eq_getElem_cons (l := b64 0) (i := k) (by rw [b64_len]; exact hk), List.append_assoc]
  rfl
/-- The set of two, by how. -/
def two9v (x y how : Nat) : Nat := if how = 1 then x ||| y else if how = 2 then x &&& y else mns x y
theorem two9v_lt {x y : Nat} (hx : x < top64) (hy : y < top64) (how : Nat) : two9v x y how < top64 := by
  unfold two9v
  split
  · exact or_lt hx hy
  · split
    · exact and_lt hx
    · exact mns_lt hx
/-- Between two rounds: the boxes. -/
structure TwJ (w wr : World) (b3 b4 b6 b7 x y z k : Nat) : Prop where
  h3 : wr.heap[b3]? = some (.cells (b64 x).toArray 31 (0, 0))
  h4 : wr.heap[b4]? = some (.cells (b64 y).toArray 31 (0, 0))
  h6 : wr.heap[b6]? = some (.cells (b64 0).toArray 31 (0, 0))
  h7 : wr.heap[b7]? = some (.cells (half9 z k).toArray 31 (0, 0))
  n3 : b3 ≠ b7
  n4 : b4 ≠ b7
  n6 : b6 ≠ b7
  m6 : w.heap.size ≤ b6
  m7 : w.heap.size ≤ b7
  B : Below w.heap.size w wr
theorem TwJ.next {w wr : World} {b3 b4 b6 b7 x y z k : Nat} (J : TwJ w wr b3 b4 b6 b7 x y z k) (hk : k < 64) : TwJ w (wr.setCell ⟨b7, k, none⟩ (.bool (z.testBit k))) b3 b4 b6 b7 x y z (k + 1) := by
  refine ⟨?_, ?_, ?_, ?_, J.n3, J.n4, J.n6, J.m6, J.m7, J.B.setCell (p := ⟨b7, k, none⟩) J.m7 _⟩
  · rw [Below.heap_setCell _ _ _ _ J.n3]; exact J.h3
  · rw [Below.heap_setCell _ _ _ _ J.n4]; exact J.h4
  · rw [Below.heap_setCell _ _ _ _ J.n6]; exact J.h6
  · have := set_blk (n := k) J.h7 (.bool (z.testBit k))
    rw [half9_set z k hk] at this
    exact this
theorem blk_cell {w : World} {b k : Nat} {x : Nat} (h : w.heap[b]? = some (.cells (b64 x).toArray 31 (0, 0))) (hk : k < 64) : w.cell? ⟨b, k, none⟩ = some (.bool (x.testBit k)) := by
  rw [cell_of_row w b k _ _ (0, 0) h]
  simpa using b64_get x hk
/-- A new variable of nought. -/
theorem wpList_alloc9 {P : Program} {ops : Array Oper} {rest : List Oper} {op : Oper} {a : Act} {w : World} {Q : Exit → Act → World → Prop} (hg : op.guard = none) (t : TypeId) (ho : op.op = .alloc t)
    (dst : Option Tmp) (hdst : op.dst = dst) (N : Nat) (hN : w.heap.size = N) (z : Value) (hz : (zeroValue t).run P w = .ok z w)
    (h : wpList P ops Q rest (a.put dst (.pointer (some ⟨N, 0, none⟩))) (w.alloc (.cells z.cells t))) : wpList P ops Q (op :: rest) a w := by
  subst hdst hN
  refine wpList_plain hg fun K hK => ?_
  unfold Oper.wp execOp
  simp only [ho, Sem.run_bind, Instr.alloc, hz, newVar, newRow, run_newObj_alloc, Sem.run_pure, Result.andThen_ok]
  exact hK _ _ h
theorem setCells_blk {b : Nat} {t : TypeId} : ∀ (cs pre old : List Value) (w : World), w.heap[b]? = some (.cells (pre ++ old).toArray t (0, 0)) → old.length = cs.length → (w.setCells b pre.length cs).heap[b]? = some (.cells (pre ++ cs).toArray t (0, 0))
  | [], pre, old, w, h, hl => by
    have : old = [] := List.eq_nil_of_length_eq_zero hl
    subst this
    exact h
  | v :: r, pre, [], w, h, hl => by simp at hl
  | v :: r, pre, u :: old, w, h, hl => by
    rw [World.setCells]
    have h1 := set_blk (n := pre.length) h v
    rw [List.set_append_right _ _ (Nat.le_refl _), Nat.sub_self] at h1
    have h2 := setCells_blk r (pre ++ [v]) old (w.setCell ⟨b, pre.length, none⟩ v) (by rw [List.append_assoc]; exact h1) (by simpa using hl)
    rw [List.append_assoc, List.length_append] at h2
    exact h2
theorem setCells_row {w : World} {b : Nat} {t : TypeId} {old cs : List Value} (h : w.heap[b]? = some (.cells old.toArray t (0, 0))) (hl : old.length = cs.length) : (w.setCells b 0 cs).heap[b]? = some (.cells cs.toArray t (0, 0)) :=
  setCells_blk cs [] old w h hl
theorem setCells_other {b k : Nat} (hk : k ≠ b) : ∀ (cs : List Value) (o : Nat) (w : World), (w.setCells b o cs).heap[k]? = w.heap[k]?
  | [], _, _ => rfl
  | v :: r, o, w => by
    rw [World.setCells, setCells_other hk r (o + 1) _, Below.heap_setCell _ _ _ _ hk]
theorem there9 {w : World} {b x : Nat} (h : w.heap[b]? = some (.cells (b64 x).toArray 31 (0, 0))) (z : Nat) : w.there b 0 (b64 z).toArray.size := by
  have := there_blk h (b64_len x)
  simpa [b64_len] using this
theorem size9 (z : Nat) : (Tryd.prog.info? 31).map (·.size) = some (b64 z).toArray.size := by
  have := sizeSet9 z
  simpa using this
theorem built9 : Tryd.prog.built 31 [] = some (b64 0).toArray := by kernel_rfl
theorem zero9 (w : World) : (zeroValue 31).run Tryd.prog w = .ok (.agg (b64 0).toArray) w := (zero_of_info infoSet9).1 w
set_option maxRecDepth 100000 in
set_option maxHeartbeats 4000000 in
theorem refTwo_c (x y how : Nat) (w : World) (hx : x < top64) (hy : y < top64) (h1 : 1 ≤ how) (h3 : how ≤ 3) :
    Calls Tryd.prog 23 #[av x, av y, .int .i64 (how : Nat)] w fun e w' => e = .returned (av (two9v x y how)) ∧ Below w.heap.size w w' := by
  unfold av
  obtain ⟨z, hz⟩ : ∃ z, z = two9v x y how := ⟨_, rfl⟩
  have HZ : Hid (z = two9v x y how) := hz
  rw [← hz]
  clear hz
  obtain ⟨w3, hw3⟩ : ∃ w3, w3 = ((w.alloc (.cells (b64 x).toArray 31)).alloc (.cells (b64 y).toArray 31)).alloc (.cells (b64 0).toArray 31) := ⟨_, rfl⟩
  obtain ⟨b3, hb3⟩ : ∃ b, b = w.heap.size := ⟨_, rfl⟩
  obtain ⟨b4, hb4⟩ : ∃ b, b = w.heap.size + 1 := ⟨_, rfl⟩
  obtain ⟨b6, hb6⟩ : ∃ b, b = w.heap.size + 1 + 1 := ⟨_, rfl⟩
  have e3 : w3.heap[b3]? = some (.cells (b64 x).toArray 31 (0, 0)) := by
    subst hw3 hb3
    rw [Below.heap_alloc _ _ _ (by simp; omega), Below.heap_alloc _ _ _ (by simp)]; exact heap_alloc_new w _
  have e4 : w3.heap[b4]? = some (.cells (b64 y).toArray 31 (0, 0)) := by
    subst hw3 hb4
    rw [Below.heap_alloc _ _ _ (by simp)]
    have := heap_alloc_new (w.alloc (.cells (b64 x).toArray 31)) (.cells (b64 y).toArray 31)
    simpa using this
  have e6 : w3.heap[b6]? = some (.cells (b64 0).toArray 31 (0, 0)) := by
    subst hw3 hb6
    have := heap_alloc_new ((w.alloc (.cells (b64 x).toArray 31)).alloc (.cells (b64 y).toArray 31)) (.cells (b64 0).toArray 31)
    simpa using this
  have eB : Below w.heap.size w w3 := by rw [hw3]; exact bal (bal (bal (b0 w) _) _) _
  have eS : w3.heap.size = w.heap.size + 3 := by rw [hw3]; simp
  have HW3 : Hid (w3 = ((w.alloc (.cells (b64 x).toArray 31)).alloc (.cells (b64 y).toArray 31)).alloc (.cells (b64 0).toArray 31)) := hw3
  have HB3 : Hid (b3 = w.heap.size ∧ b4 = w.heap.size + 1 ∧ b6 = w.heap.size + 1 + 1) := ⟨hb3, hb4, hb6⟩
  have HE : Hid (w3.heap.size = w.heap.size + 3) := eS
  clear hw3 hb3 hb4 hb6 eS
  go_enter Tryd.func23, Tryd.ntmps23
  go_upto_region 1 with fail
  rw [turn9 (w := (w.alloc (.cells (b64 x).toArray 31)).alloc (.cells (b64 y).toArray 31)) (w1 := w3) ?hW]
  case hW => rw [HW3.out]; kernel_rfl
  rw [← HB3.out.2.2, ← HB3.out.2.1, ← HB3.out.1]
  obtain ⟨b7, hb7⟩ : ∃ b, b = w3.heap.size := ⟨_, rfl⟩
  have e7 : (w3.alloc (.cells (b64 0).toArray 31)).heap[b7]? = some (.cells (b64 0).toArray 31 (0, 0)) := by rw [hb7]; exact heap_alloc_new w3 _
  have START : TwJ w ((w3.alloc (.cells (b64 0).toArray 31)).setCells b7 0 (b64 0)) b3 b4 b6 b7 x y z 0 := by
    obtain ⟨q1, q2, q3⟩ := HB3.out
    have q4 := HE.out
    have l3 : b3 ≠ b7 := by omega
    have l4 : b4 ≠ b7 := by omega
    have l6 : b6 ≠ b7 := by omega
    refine ⟨?_, ?_, ?_, ?_, l3, l4, l6, by omega, by omega, below_setCells (by omega) _ _ _ (bal eB _)⟩
    · rw [setCells_other l3, Below.heap_alloc _ _ _ (by omega)]; exact e3
    · rw [setCells_other l4, Below.heap_alloc _ _ _ (by omega)]; exact e4
    · rw [setCells_other l6, Below.heap_alloc _ _ _ (by omega)]; exact e6
    · rw [half9_zero]
      exact setCells_row e7 rfl
  refine wp_region_lit ?_
  refine wpList_buildTo rfl 31 #[] rfl (some 9) rfl (b64 0).toArray (by simpa using built9) ?_
  refine wpList_alloc9 rfl 31 rfl (some 7) rfl b7 hb7.symm (.agg (b64 0).toArray) (zero9 _) ?_
  refine wpList_store_mid rfl 31 _ _ rfl b7 0 (b64 0).toArray rfl rfl (there9 e7 0) (size9 0) (all_oneCell_toArray (b64_one 0)) ?_
  simp only [Act.put, List.setIfInBounds_toArray, List.set_cons_zero, List.set_cons_succ, Value.cells]
  clear e3 e4 e6 e7 eB HW3 HB3 HE
  generalize (w3.alloc (.cells (b64 0).toArray 31)).setCells b7 0 (b64 0) = w5 at START ⊢
  clear hb7
  go_wp2_with fail
  go_loopg [8] 64 (fun gh vi wr => ∃ k, k ≤ 64 ∧ gh = 64 - k ∧ vi = .int .i64 (k : Nat) ∧ TwJ w wr b3 b4 b6 b7 x y z k)
  case atStart => exact ⟨0, by omega, by omega, by go_num, START⟩
  case round =>
    clear START
    obtain ⟨k, hk, rfl, rfl, J⟩ := hrel
    by_cases hk64 : k < 64
    · have hkI : (k : Int) < 64 := by omega
      have c3 := blk_cell J.h3 hk64
      have c4 := blk_cell J.h4 hk64
      obtain ⟨u7, c7⟩ : ∃ u, wr.cell? ⟨b7, k, none⟩ = some u := by
        rw [cell_of_row wr b7 k _ _ (0, 0) J.h7]
        refine ⟨(half9 z k)[k]'(by rw [half9_len _ _ (by omega)]; exact hk64), ?_⟩
        simp [half9_len z k (by omega), hk64]
      have f7 : wr.frozen? ⟨b7, k, none⟩ = false := frozen_of_row wr b7 k _ _ J.h7
      have JN := J.next hk64
      have hzk : z.testBit k = if how = 1 then (x.testBit k || y.testBit k) else if how = 2 then (x.testBit k && y.testBit k) else (x.testBit k && !y.testBit k) := by
        rw [HZ.out]
        unfold two9v
        split
        · exact Nat.testBit_or ..
        · split
          · exact Nat.testBit_and ..
          · exact mns_bit' x y hx hy k
      clear J
      generalize x.testBit k = xb at c3 hzk
      generalize y.testBit k = yb at c4 hzk
      generalize z.testBit k = zb at JN hzk
      have HN0 : Hid (TwJ w (wr.setCell ⟨b7, k, none⟩ (.bool zb)) b3 b4 b6 b7 x y z (k + 1)) := JN
      clear JN
      rcases (show how = 1 ∨ how = 2 ∨ how = 3 by omega) with rfl | rfl | rfl <;> cases xb <;> cases yb <;> simp at hzk <;> subst hzk
      all_goals (
        go_wp2
        go_roundg (64 - (k + 1))
        case measure => omega
        case rel => exact ⟨k + 1, by omega, rfl, by go_num, HN0.out⟩)
    · obtain rfl : k = 64 := by omega
      have J7 := J.h7
      rw [half9_all] at J7
      have r7 := range_blk J7
      have B9 := below_setCells J.m6 (b64 z) 0 wr J.B
      have r9 : (wr.setCells b6 0 (b64 z)).heap[b6]? = some (.cells (b64 z).toArray 31 (0, 0)) := setCells_row J.h6 (by rw [b64_len, b64_len])
      have t6 := there9 J.h6 z
      clear J J7
      go_wp2_with (first | (refine wpList_load_mid rfl 31 _ rfl b7 0 rfl (b64 z) _ r7 Tryd.underlying31 rfl (sizeSet9 z) ?_) | (refine wpList_store_mid rfl 31 _ _ rfl b6 0 (b64 z).toArray rfl rfl t6 (size9 z) (all_oneCell_toArray (b64_one z)) ?_))
      refine bodyPost_ret (v := .agg (b64 z).toArray) ?_ rfl ⟨rfl, B9⟩
      exact results_cell_row rfl _ _ b6 31 _ _ _ rfl r9 Tryd.underlying31 rfl (size9 z)
end Go.Proofs.YtmnmjmhmdnjdlaaDoor
