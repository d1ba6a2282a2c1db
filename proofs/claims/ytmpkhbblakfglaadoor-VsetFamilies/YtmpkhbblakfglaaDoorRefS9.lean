/- The document's own sets: 64 bools. -/
import Derived.Test.YtmpkhbblakfglaaDoorBits9
import Derived.Laws.ResultCell
import Derived.Great.BuildSlice
namespace Go.Proofs.YtmpkhbblakfglaaDoor
open Go.ChangeShapes Go.WideShapes Go.ChangeAt Go.RowKit Go.Maps
set_option linter.unusedVariables false
set_option linter.unusedSimpArgs false

theorem fits_c (n : Int) (w : World) (b : Bool) (hb : b = true ↔ 0 ≤ n ∧ n < 64) :
    Calls Tryd.prog 41 #[.int .i64 n] w fun e w' => e = .returned (.bool b) ∧ w' = w := by
  by_cases u1 : 0 ≤ n
  · by_cases u2 : n < 64
    · obtain rfl : b = true := hb.2 ⟨u1, u2⟩
      clear hb
      go_enter Tryd.func41, Tryd.ntmps41
      go_wp2
      go_ret
      exact ⟨rfl, rfl⟩
    · obtain rfl : b = false := by cases b with | false => rfl | true => exact absurd (hb.1 rfl).2 u2
      clear hb
      go_enter Tryd.func41, Tryd.ntmps41
      go_wp2
      go_ret
      exact ⟨rfl, rfl⟩
  · obtain rfl : b = false := by cases b with | false => rfl | true => exact absurd (hb.1 rfl).1 u1
    clear hb
    go_enter Tryd.func41, Tryd.ntmps41
    go_wp2
    go_ret
    exact ⟨rfl, rfl⟩
/-- Two new blocks. -/
theorem two9 {w w1 : World} {cs ds : Array Value} {t : TypeId} (h : w1 = (w.alloc (.cells cs t)).alloc (.cells ds t)) {b c : Nat} (hb : b = w.heap.size) (hc : c = w.heap.size + 1) :
    w1.heap[b]? = some (.cells cs t (0, 0)) ∧ w1.heap[c]? = some (.cells ds t (0, 0)) ∧ Below w.heap.size w w1 ∧ b ≠ c ∧ b < w1.heap.size ∧ c < w1.heap.size ∧ w.heap.size ≤ b ∧ w.heap.size ≤ c := by
  subst hb hc h
  refine ⟨?_, ?_, bal (bal (b0 w) _) _, by omega, by simp; omega, by simp, by omega, by omega⟩
  · rw [Below.heap_alloc _ _ _ (by simp)]; exact heap_alloc_new w _
  · have := heap_alloc_new (w.alloc (.cells cs t)) (.cells ds t)
    simpa using this
theorem range_blk {w : World} {b : Nat} {cs : List Value} {t : TypeId} (h : w.heap[b]? = some (.cells cs.toArray t (0, 0))) : w.rangeAt b 0 cs := fun j v hv => by
  rw [cell_of_row w b (0 + j) _ t (0, 0) h]
  simpa using hv
theorem there_blk {w : World} {b n : Nat} {cs : List Value} {t : TypeId} (h : w.heap[b]? = some (.cells cs.toArray t (0, 0))) (hn : cs.length = n) : w.there b 0 n := fun j hj => by
  refine ⟨?_, frozen_of_row w b _ _ t h⟩
  rw [cell_of_row w b (0 + j) _ t (0, 0) h]
  simp [hn, hj]
theorem set_blk {w : World} {b n : Nat} {cs : List Value} {t : TypeId} (h : w.heap[b]? = some (.cells cs.toArray t (0, 0))) (u : Value) : (w.setCell ⟨b, n, none⟩ u).heap[b]? = some (.cells (cs.set n u).toArray t (0, 0)) := by
  have : Blk w (fun _ => 0) 0 b (.cells cs.toArray t (0, 0)) := ⟨h, rfl⟩
  have := (this.set n u).1
  simpa using this
theorem turn9 {w : World} {ob : Obj} {w1 : World} (h : w.alloc ob = w1) : w.alloc ob = w1 := h
theorem below_setCells {a : World} {b : Nat} (hb : a.heap.size ≤ b) : ∀ (cs : List Value) (o : Nat) (w : World), Below a.heap.size a w → Below a.heap.size a (w.setCells b o cs)
  | [], _, _, h => h
  | v :: r, o, w, h => by
    rw [World.setCells]
    exact below_setCells hb r (o + 1) _ (h.setCell (p := ⟨b, o, none⟩) hb v)
end Go.Proofs.YtmpkhbblakfglaaDoor
