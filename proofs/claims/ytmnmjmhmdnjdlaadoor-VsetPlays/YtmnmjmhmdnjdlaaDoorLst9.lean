/- Lists that came out of All, and what they were. -/
import Derived.Test.YtmnmjmhmdnjdlaaDoorBook9
namespace Go.Proofs.YtmnmjmhmdnjdlaaDoor
open Go.ChangeShapes Go.WideShapes Go.ChangeAt Go.RowKit Go.Maps
set_option linter.unusedVariables false

/-- The lists that came out of All, and what they were. -/
structure Lists (w : World) (o : Nat → Nat) (als wls : List Value) (ls : List (List Nat)) : Prop where
  la : als.length = ls.length
  lw : wls.length = ls.length
  le : ls.length ≤ 30
  len : ∀ i, i < ls.length → (ls.getD i []).length ≤ 4096
  all : ∀ i, i < ls.length → Row w o (20 + i) 3 1 (als.getD i (.slice none 0 0)) (ls.getD i []).length (intsL (ls.getD i []))
  was : ∀ i, i < ls.length → Row w o (60 + i) 3 1 (wls.getD i (.slice none 0 0)) (ls.getD i []).length (intsL (ls.getD i []))
theorem Lists.step {I : Nat → Prop} {w w' : World} {o o' : Nat → Nat} {als wls : List Value} {ls : List (List Nat)} (h : Lists w o als wls ls) (s : Step I w o w' o') (hi : ∀ k, 20 ≤ k → k < 90 → ¬ I k) : Lists w' o' als wls ls :=
  ⟨h.la, h.lw, h.le, h.len, fun i hl => (h.all i hl).step s (hi _ (by omega) (by have := h.le; omega)), fun i hl => (h.was i hl).step s (hi _ (by omega) (by have := h.le; omega))⟩
theorem Lists.nil (w : World) (o : Nat → Nat) : Lists w o [] [] [] := ⟨rfl, rfl, by simp, fun i h => by simp at h, fun i h => by simp at h, fun i h => by simp at h⟩

theorem infoSl : (Tryd.prog.info? 37).map (fun i => (i.zero, i.size, i.bytes)) = some (some (.slice none 0 0), 1, 24) := by kernel_rfl

theorem one_slice (a : Option Addr) (n c : Nat) : ∀ u ∈ [Value.slice a n c], u.oneCell' = true := by intro u hu; simp at hu; subst hu; rfl

theorem Lists.stepN {I : Nat → Prop} {w w' : World} {o o' : Nat → Nat} {als wls : List Value} {ls : List (List Nat)} (h : Lists w o als wls ls) (s : Step I w o w' o') (hi : ∀ i, i < ls.length → ¬ I (20 + i) ∧ ¬ I (60 + i)) : Lists w' o' als wls ls :=
  ⟨h.la, h.lw, h.le, h.len, fun i hl => (h.all i hl).step s (hi i hl).1, fun i hl => (h.was i hl).step s (hi i hl).2⟩

theorem getD_snoc' {α : Type} (l : List α) (x d : α) (i : Nat) : (l ++ [x]).getD i d = if i < l.length then l.getD i d else if i = l.length then x else d := by
  rw [List.getD_eq_getElem?_getD, List.getElem?_append]
  by_cases h : i < l.length
  · simp [h]
  · by_cases e : i = l.length
    · simp [e]
    · have : 0 < i - l.length := by omega
      simp [h, e, List.getElem?_eq_none (l := [x]) (i := i - l.length) (by simp; omega)]

theorem Lists.push {w : World} {o : Nat → Nat} {als wls : List Value} {ls : List (List Nat)} {va vw : Value} {l : List Nat} (h : Lists w o als wls ls) (hN : ls.length < 30) (hl : l.length ≤ 4096)
    (ha : Row w o (20 + ls.length) 3 1 va l.length (intsL l)) (hw : Row w o (60 + ls.length) 3 1 vw l.length (intsL l)) : Lists w o (als ++ [va]) (wls ++ [vw]) (ls ++ [l]) := by
  have h1 := h.la
  have h2 := h.lw
  have e : (ls ++ [l]).length = ls.length + 1 := by simp
  refine ⟨by simp [h1], by simp [h2], by omega, fun i hi => ?_, fun i hi => ?_, fun i hi => ?_⟩
  · rw [getD_snoc']
    by_cases hi' : i < ls.length
    · rw [if_pos hi']; exact h.len i hi'
    · rw [if_neg hi', if_pos (by omega)]; exact hl
  · rw [getD_snoc', getD_snoc', h1]
    by_cases hi' : i < ls.length
    · rw [if_pos hi', if_pos hi']; exact h.all i hi'
    · obtain rfl : i = ls.length := by omega
      rw [if_neg (by omega), if_pos rfl, if_neg (by omega), if_pos rfl]
      exact ha
  · rw [getD_snoc', getD_snoc', h2]
    by_cases hi' : i < ls.length
    · rw [if_pos hi', if_pos hi']; exact h.was i hi'
    · obtain rfl : i = ls.length := by omega
      rw [if_neg (by omega), if_pos rfl, if_neg (by omega), if_pos rfl]
      exact hw

def zL (l : List Int) : List Value := l.map fun z => .int .i64 z
theorem zL_get (l : List Int) (j : Nat) (h : j < l.length) : (zL l)[j]? = some (.int .i64 (l.getD j 0)) := by simp [zL, h]
theorem zL_set (l : List Int) (j : Nat) (x : Int) : (zL l).set j (.int .i64 x) = zL (l.set j x) := by simp [zL]
theorem zL_push (l : List Int) (x : Int) : zL l ++ [.int .i64 x] = zL (l ++ [x]) := by simp [zL]
theorem intsL_zL (l : List Nat) : intsL l = zL (l.map fun h : Nat => (h : Int)) := by simp [intsL, zL]

/-- The rows of the lists that came out, whatever they hold. -/
def Rws (w : World) (o : Nat → Nat) (N : Nat) (als : List Value) (ct : Nat → List Int) : Prop :=
  ∀ j, j < N → Row w o (20 + j) 3 1 (als.getD j (.slice none 0 0)) (ct j).length (zL (ct j))
theorem Rws.ofLists {w : World} {o : Nat → Nat} {als wls : List Value} {ls : List (List Nat)} (h : Lists w o als wls ls) : Rws w o ls.length als (fun j => (ls.getD j []).map fun h : Nat => (h : Int)) := by
  intro j hj
  have := h.all j hj
  rw [intsL_zL] at this
  simpa using this
theorem Rws.step {I : Nat → Prop} {w w' : World} {o o' : Nat → Nat} {N : Nat} {als : List Value} {ct : Nat → List Int} (h : Rws w o N als ct) (s : Step I w o w' o') (hi : ∀ j, j < N → ¬ I (20 + j)) : Rws w' o' N als ct := fun j hj => (h j hj).step s (hi j hj)
/-- A store into row i. -/
theorem Rws.store {w : World} {o : Nat → Nat} {N : Nat} {als : List Value} {ct : Nat → List Int} {i g cap : Nat} (h : Rws w o N als ct) (hi : i < N) (hv : als.getD i (.slice none 0 0) = .slice (some ⟨g, 0, none⟩) (ct i).length cap) (t : Nat) (x : Int) :
    Rws (w.setCell ⟨g, t, none⟩ (.int .i64 x)) o N als (fun j => if j = i then (ct i).set t x else ct j) ∧ Step (fun k => k = 20 + i) w o (w.setCell ⟨g, t, none⟩ (.int .i64 x)) o := by
  have hr := h i hi
  rw [hv] at hr
  have s1 := setStep (fun k => k = 20 + i) w o ⟨g, t, none⟩ (.int .i64 x) (hr.2 g rfl)
  refine ⟨fun j hj => ?_, s1⟩
  by_cases e : j = i
  · subst e
    have := hr.store t (.int .i64 x)
    rw [zL_set] at this
    simp only [if_true]
    rw [hv, List.length_set]
    exact this
  · simp only [if_neg e]
    exact (h j hj).step s1 (by omega)
/-- Another list in row i's place. -/
theorem Rws.put {w : World} {o : Nat → Nat} {N : Nat} {als : List Value} {ct : Nat → List Int} {i : Nat} {v : Value} {l : List Int} (h : ∀ j, j < N → j ≠ i → Row w o (20 + j) 3 1 (als.getD j (.slice none 0 0)) (ct j).length (zL (ct j))) (hl : als.length = N) (hi : i < N) (hr : Row w o (20 + i) 3 1 v l.length (zL l)) :
    Rws w o N (als.set i v) (fun j => if j = i then l else ct j) := by
  intro j hj
  rw [List.getD_eq_getElem?_getD, List.getElem?_set]
  by_cases e : j = i
  · subst e
    simp only [if_true]
    rw [if_pos (by omega)]
    exact hr
  · simp only [if_neg e, if_neg (fun x : i = j => e x.symm)]
    rw [← List.getD_eq_getElem?_getD]
    exact h j hj e

end Go.Proofs.YtmnmjmhmdnjdlaaDoor
