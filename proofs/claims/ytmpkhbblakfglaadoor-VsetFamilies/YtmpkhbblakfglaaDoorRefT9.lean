/- The document's own sets: of two sets; of a list. -/
import Derived.Test.YtmpkhbblakfglaaDoorRefS9
import Derived.Deep.LoopGhost
import Derived.Great.Ranges
import Derived.Deep.WholeRow
namespace Go.Proofs.YtmpkhbblakfglaaDoor
open Go.ChangeShapes Go.WideShapes Go.ChangeAt Go.RowKit Go.Maps
set_option linter.unusedVariables false
set_option linter.unusedSimpArgs false

/-- Half done: the first k of z, nought behind. -/
def half9 (z k : Nat) : List Value := (b64 z).take k ++ (b64 0).drop k
theorem half9_len (z k : Nat) (hk : k ≤ 64) : (half9 z k).length = 64 := by
  unfold half9
  rw [List.length_append, List.length_take, List.length_drop, b64_len, b64_len]; omega
theorem half9_zero (z : Nat) : half9 z 0 = b64 0 := by simp [half9]
theorem half9_all (z : Nat) : half9 z 64 = b64 z := by
  unfold half9
  rw [List.take_of_length_le (by rw [b64_len]; omega), List.drop_eq_nil_of_le (by rw [b64_len]; omega), List.append_nil]
theorem half9_set (z k : Nat) (hk : k < 64) : (half9 z k).set k (.bool (z.testBit k)) = half9 z (k + 1) := by
  unfold half9
  have h1 : ((b64 z).take k).length = k := by rw [List.length_take, b64_len]; omega
  have h2 : (b64 z)[k]? = some (.bool (z.testBit k)) := b64_get z hk
  obtain ⟨h3, h4⟩ := List.getElem?_eq_some_iff.1 h2
  rw [List.set_append_right _ _ (by omega), h1, Nat.sub_self, List.take_succ_eq_append_getElem h3, h4, List.drop_eq_getElem_cons (l := b64 0) (i := k) (by rw [b64_len]; exact hk), List.append_assoc]
  rfl
/-- The set of two, by how. -/
def two9v (x y how : Nat) : Nat := if how = 1 then x ||| y else if how = 2 then x &&& y else mns x y
theorem two9v_lt {x y : Nat} (hx : x < top64) (hy : y < top64) (how : Nat) : two9v x y how < top64 := by
  unfold two9v
  split
  · exact or_lt hx hy
  · split
    · exact and_lt hx
    · exact mns_lt hx
/-- Between two rounds: the boxes. -/
structure TwJ (w wr : World) (b3 b4 b6 b7 x y z k : Nat) : Prop where
  h3 : wr.heap[b3]? = some (.cells (b64 x).toArray 57 (0, 0))
  h4 : wr.heap[b4]? = some (.cells (b64 y).toArray 57 (0, 0))
  h6 : wr.heap[b6]? = some (.cells (b64 0).toArray 57 (0, 0))
  h7 : wr.heap[b7]? = some (.cells (half9 z k).toArray 57 (0, 0))
  n3 : b3 ≠ b7
  n4 : b4 ≠ b7
  n6 : b6 ≠ b7
  m6 : w.heap.size ≤ b6
  m7 : w.heap.size ≤ b7
  B : Below w.heap.size w wr
theorem TwJ.next {w wr : World} {b3 b4 b6 b7 x y z k : Nat} (J : TwJ w wr b3 b4 b6 b7 x y z k) (hk : k < 64) : TwJ w (wr.setCell ⟨b7, k, none⟩ (.bool (z.testBit k))) b3 b4 b6 b7 x y z (k + 1) := by
  refine ⟨?_, ?_, ?_, ?_, J.n3, J.n4, J.n6, J.m6, J.m7, J.B.setCell (p := ⟨b7, k, none⟩) J.m7 _⟩
  · rw [Below.heap_setCell _ _ _ _ J.n3]; exact J.h3
  · rw [Below.heap_setCell _ _ _ _ J.n4]; exact J.h4
  · rw [Below.heap_setCell _ _ _ _ J.n6]; exact J.h6
  · have := set_blk (n := k) J.h7 (.bool (z.testBit k))
    rw [half9_set z k hk] at this
    exact this
theorem blk_cell {w : World} {b k : Nat} {x : Nat} (h : w.heap[b]? = some (.cells (b64 x).toArray 57 (0, 0))) (hk : k < 64) : w.cell? ⟨b, k, none⟩ = some (.bool (x.testBit k)) := by
  rw [cell_of_row w b k _ _ (0, 0) h]
  simpa using b64_get x hk
/-- A new variable of nought. -/
theorem wpList_alloc9 {P : Program} {ops : Array Oper} {rest : List Oper} {op : Oper} {a : Act} {w : World} {Q : Exit → Act → World → Prop} (hg : op.guard = none) (t : TypeId) (ho : op.op = .alloc t)
    (dst : Option Tmp) (hdst : op.dst = dst) (N : Nat) (hN : w.heap.size = N) (z : Value) (hz : (zeroValue t).run P w = .ok z w)
    (h : wpList P ops Q rest (a.put dst (.pointer (some ⟨N, 0, none⟩))) (w.alloc (.cells z.cells t))) : wpList P ops Q (op :: rest) a w := by
  subst hdst hN
  refine wpList_plain hg fun K hK => ?_
  unfold Oper.wp execOp
  simp only [ho, Sem.run_bind, Instr.alloc, hz, newVar, newRow, run_newObj_alloc, Sem.run_pure, Result.andThen_ok]
  exact hK _ _ h
theorem setCells_blk {b : Nat} {t : TypeId} : ∀ (cs pre old : List Value) (w : World), w.heap[b]? = some (.cells (pre ++ old).toArray t (0, 0)) → old.length = cs.length → (w.setCells b pre.length cs).heap[b]? = some (.cells (pre ++ cs).toArray t (0, 0))
  | [], pre, old, w, h, hl => by
    have : old = [] := List.eq_nil_of_length_eq_zero hl
    subst this
    exact h
  | v :: r, pre, [], w, h, hl => by simp at hl
  | v :: r, pre, u :: old, w, h, hl => by
    rw [World.setCells]
    have h1 := set_blk (n := pre.length) h v
    rw [List.set_append_right _ _ (Nat.le_refl _), Nat.sub_self] at h1
    have h2 := setCells_blk r (pre ++ [v]) old (w.setCell ⟨b, pre.length, none⟩ v) (by rw [List.append_assoc]; exact h1) (by simpa using hl)
    rw [List.append_assoc, List.length_append] at h2
    exact h2
theorem setCells_row {w : World} {b : Nat} {t : TypeId} {old cs : List Value} (h : w.heap[b]? = some (.cells old.toArray t (0, 0))) (hl : old.length = cs.length) : (w.setCells b 0 cs).heap[b]? = some (.cells cs.toArray t (0, 0)) :=
  setCells_blk cs [] old w h hl
theorem setCells_other {b k : Nat} (hk : k ≠ b) : ∀ (cs : List Value) (o : Nat) (w : World), (w.setCells b o cs).heap[k]? = w.heap[k]?
  | [], _, _ => rfl
  | v :: r, o, w => by
    rw [World.setCells, setCells_other hk r (o + 1) _, Below.heap_setCell _ _ _ _ hk]
theorem there9 {w : World} {b x : Nat} (h : w.heap[b]? = some (.cells (b64 x).toArray 57 (0, 0))) (z : Nat) : w.there b 0 (b64 z).toArray.size := by
  have := there_blk h (b64_len x)
  simpa [b64_len] using this
theorem size9 (z : Nat) : (Tryd.prog.info? 57).map (·.size) = some (b64 z).toArray.size := by
  have := sizeSet9 z
  simpa using this
theorem built9 : Tryd.prog.built 57 [] = some (b64 0).toArray := by kernel_rfl
theorem zero9 (w : World) : (zeroValue 57).run Tryd.prog w = .ok (.agg (b64 0).toArray) w := (zero_of_info infoSet9).1 w
end Go.Proofs.YtmpkhbblakfglaaDoor
