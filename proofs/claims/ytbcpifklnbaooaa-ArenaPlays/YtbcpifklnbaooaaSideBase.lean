/- What the two sides of the law ArenaPlays share: labels, the list of what is kept, the lists that came out. -/
import Derived.Test.YtbcpifklnbaooaaRefs2
namespace Go.Proofs.Ytbcpifklnbaooaa
open Go.ChangeShapes Go.WideShapes Go.ChangeAt Go.RowKit
set_option linter.unusedVariables false

/-- A side has a hundred labels. -/
def SL (S : Nat) : Nat → Prop := fun k => S ≤ k ∧ k < S + 100
/-- Those of them that bear on what a side holds. -/
def SD (S : Nat) : Nat → Prop := fun k => S ≤ k ∧ k < S + 92
theorem SD.mk {S k : Nat} (h1 : S ≤ k) (h2 : k < S + 92) : SD S k := ⟨h1, h2⟩
theorem SL.mk {S k : Nat} (h1 : S ≤ k) (h2 : k < S + 100) : SL S k := ⟨h1, h2⟩
theorem SL.ofIL {S k : Nat} (h : IL (S + 1) k) : SL S k := ⟨by unfold IL at h; omega, by unfold IL at h; omega⟩
theorem SL.ofRL {S k : Nat} (h : RL (S + 5) k) : SL S k := ⟨by unfold RL at h; omega, by unfold RL at h; omega⟩
theorem SL.ofEq {S j k : Nat} (hj : j < 100) (h : k = S + j) : SL S k := ⟨by omega, by omega⟩

theorem Blk.cells5 {w : World} {o : Nat → Nat} {i b : Nat} {a0 a1 a2 a3 a4 : Value} {t : TypeId} (h : Blk w o i b (.cells #[a0, a1, a2, a3, a4] t (0, 0))) :
    w.cell? ⟨b, 0, none⟩ = some a0 ∧ w.cell? ⟨b, 1, none⟩ = some a1 ∧ w.cell? ⟨b, 2, none⟩ = some a2 ∧ w.cell? ⟨b, 3, none⟩ = some a3 ∧ w.cell? ⟨b, 4, none⟩ = some a4 ∧ ∀ j, w.frozen? ⟨b, j, none⟩ = false := by
  refine ⟨?_, ?_, ?_, ?_, ?_, fun j => frozen_of_row w b j _ t h.1⟩ <;> simp [cell_of_row w b _ _ t (0, 0) h.1]

theorem hasB_true {n : Nat} {free : List Nat} {x : Int} (h : hasB n free x = true) : ∃ k : Nat, x = ((k + 1 : Nat) : Int) ∧ k < n ∧ useB free k = true := by
  simp only [hasB, Bool.and_eq_true, decide_eq_true_eq] at h
  refine ⟨x.toNat - 1, by omega, by omega, h.2⟩
theorem hasB_in {n : Nat} {free : List Nat} {k : Nat} (hk : k < n) (hu : useB free k = true) : hasB n free ((k + 1 : Nat) : Int) = true := by
  simp [hasB, hu]; omega

/-- What is kept by handles, beside the arena's things. -/
structure Kept {α : Type} (n : Nat) (ts : List α) (free : List Nat) (kept : List α) : Prop where
  le : kept.length ≤ n + 1
  pos : 0 < n → kept.length = n + 1
  same : ∀ k, k < n → useB free k = true → kept[k + 1]? = ts[k]?

theorem Kept.start {α : Type} : Kept 0 ([] : List α) [] [] := ⟨by simp, by omega, fun k hk => by omega⟩
theorem Kept.drop {α : Type} {n : Nat} {ts : List α} {free : List Nat} {kept : List α} (h : Kept n ts free kept) (k : Nat) (x : α) : Kept n (ts.set k x) (free ++ [k + 1]) kept := by
  refine ⟨h.le, h.pos, fun i hi hu => ?_⟩
  have e : i ≠ k := fun e => by subst e; simp [useB] at hu
  have hu' : useB free i = true := by
    simp only [useB, List.contains_eq_mem, List.mem_append, Bool.not_eq_true', decide_eq_false_iff_not, not_or] at hu ⊢
    exact hu.1
  rw [h.same i hi hu', List.getElem?_set, if_neg (by omega)]
theorem Kept.set {α : Type} {n : Nat} {ts : List α} {free : List Nat} {kept : List α} (h : Kept n ts free kept) (k : Nat) (hk : k < n) (x : α) (ht : n ≤ ts.length) : Kept n (ts.set k x) free (kept.set (k + 1) x) := by
  have hp := h.pos (by omega)
  refine ⟨by rw [List.length_set]; exact h.le, fun h0 => by rw [List.length_set]; exact hp, fun i hi hu => ?_⟩
  rw [List.getElem?_set, List.getElem?_set]
  by_cases e : k = i
  · subst e
    rw [if_pos rfl, if_pos rfl, if_pos (by omega), if_pos (by omega)]
  · rw [if_neg (by omega), if_neg e]
    exact h.same i hi hu
theorem Kept.pop {α : Type} {room n : Nat} {ts : List α} {fs : List Nat} {k : Nat} {kept : List α} (h : Kept n ts (fs ++ [k + 1]) kept) (hw : WF room n (fs ++ [k + 1])) (x : α) (ht : n ≤ ts.length) : Kept n (ts.set k x) fs (kept.set (k + 1) x) := by
  have hl := hw.last
  have hp := h.pos (by omega)
  refine ⟨by rw [List.length_set]; exact h.le, fun h0 => by rw [List.length_set]; exact hp, fun i hi hu => ?_⟩
  rw [List.getElem?_set, List.getElem?_set]
  by_cases e : k = i
  · subst e
    rw [if_pos rfl, if_pos rfl, if_pos (by omega), if_pos (by omega)]
  · rw [if_neg (by omega), if_neg e]
    refine h.same i hi ?_
    simp only [useB, List.contains_eq_mem, List.mem_append, List.mem_singleton, Bool.not_eq_true', decide_eq_false_iff_not, not_or] at hu ⊢
    exact ⟨hu, by omega⟩
theorem Kept.push {α : Type} {n : Nat} {ts : List α} {kept kept' : List α} (h : Kept n ts [] kept) (x : α) (ht : ts.length = n) (hl : kept'.length = n + 2) (hpre : ∀ i, 0 < n → i < n + 1 → kept'[i]? = kept[i]?) (hx : kept'[n + 1]? = some x) : Kept (n + 1) (ts ++ [x]) [] kept' := by
  refine ⟨by omega, fun _ => by omega, fun i hi hu => ?_⟩
  by_cases e : i = n
  · subst e
    rw [hx]; simp [← ht]
  · rw [hpre (i + 1) (by omega) (by omega), h.same i (by omega) (by simp [useB]), List.getElem?_append_left (by omega)]

/-- The lists that came out of All, and what they were. -/
structure Lists (w : World) (o : Nat → Nat) (S : Nat) (als wls : List Value) (ls : List (List Nat)) : Prop where
  la : als.length = ls.length
  lw : wls.length = ls.length
  le : ls.length ≤ 30
  len : ∀ i, i < ls.length → (ls.getD i []).length ≤ 4096
  all : ∀ i, i < ls.length → Row w o (S + 20 + i) 3 1 (als.getD i (.slice none 0 0)) (ls.getD i []).length (intsL (ls.getD i []))
  was : ∀ i, i < ls.length → Row w o (S + 60 + i) 3 1 (wls.getD i (.slice none 0 0)) (ls.getD i []).length (intsL (ls.getD i []))
theorem Lists.step {I : Nat → Prop} {w w' : World} {o o' : Nat → Nat} {S : Nat} {als wls : List Value} {ls : List (List Nat)} (h : Lists w o S als wls ls) (s : Step I w o w' o') (hi : ∀ k, S + 20 ≤ k → k < S + 90 → ¬ I k) : Lists w' o' S als wls ls :=
  ⟨h.la, h.lw, h.le, h.len, fun i hl => (h.all i hl).step s (hi _ (by omega) (by have := h.le; omega)), fun i hl => (h.was i hl).step s (hi _ (by omega) (by have := h.le; omega))⟩
theorem Lists.nil (w : World) (o : Nat → Nat) (S : Nat) : Lists w o S [] [] [] := ⟨rfl, rfl, by simp, fun i h => by simp at h, fun i h => by simp at h, fun i h => by simp at h⟩

/-- A box under label S + 99 stays while other labels are written. -/
theorem box_block {I : Nat → Prop} {w w0 w1 : World} {o o1 : Nat → Nat} {S : Nat} {cs : Array Value} {t : TypeId} (h0 : w0.heap[w.heap.size]? = some (.cells cs t (0, 0))) (hs : Step I w0 (newLab w o (S + 99)) w1 o1) (hn : ¬ I (S + 99)) :
    w1.heap[w.heap.size]? = some (.cells cs t (0, 0)) ∧ o1 w.heap.size = S + 99 :=
  ⟨(hs.block w.heap.size (lt_of_block h0) (by rw [newLab_new (Nat.le_refl _)]; exact hn)).trans h0, (hs.lab w.heap.size (lt_of_block h0)).trans (newLab_new (Nat.le_refl _))⟩
theorem box_keeps {w w1 : World} {o o1 : Nat → Nat} {S : Nat} {a b c d : Value} {t : TypeId} (hs : Step (IL (S + 1)) (w.alloc (.cells #[a, b, c, d] t)).drew (newLab w o (S + 99)) w1 o1) :
    w1.cell? ⟨w.heap.size, 1, none⟩ = some b := by
  have hb : (w.alloc (.cells #[a, b, c, d] t)).drew.heap[w.heap.size]? = some (.cells #[a, b, c, d] t (0, 0)) := heap_alloc_new w _
  have h := (box_block hb hs (by unfold IL; omega)).1
  simp [cell_of_row w1 w.heap.size _ _ t (0, 0) h]
theorem box_keeps2 {w w1 w2 : World} {o o1 o2 : Nat → Nat} {S : Nat} {a b c d : Value} {t : TypeId} (hs : Step (IL (S + 1)) (w.alloc (.cells #[a, b, c, d] t)).drew (newLab w o (S + 99)) w1 o1) (hs2 : Step (RL (S + 5)) w1 o1 w2 o2) :
    w2.cell? ⟨w.heap.size, 1, none⟩ = some b := by
  have hb : (w.alloc (.cells #[a, b, c, d] t)).drew.heap[w.heap.size]? = some (.cells #[a, b, c, d] t (0, 0)) := heap_alloc_new w _
  have h := box_block hb hs (by unfold IL; omega)
  have h2 := (hs2.block w.heap.size (lt_of_block h.1) (by rw [h.2]; unfold RL; omega)).trans h.1
  simp [cell_of_row w2 w.heap.size _ _ t (0, 0) h2]

end Go.Proofs.Ytbcpifklnbaooaa
