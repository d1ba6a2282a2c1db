/- Edges in a list against a graph: no program. -/
import Derived.Test.YtffmlffhiimmdaaParts7
namespace Go.Proofs.Ytffmlffhiimmdaa
set_option linter.unusedVariables false

/-- The list holds just the edges of a kind. -/
def Tl (P : Nat → Prop) (D : Nat → Option Ed) (l : List (Nat × Ed)) : Prop := ∀ i x, (i, x) ∈ l ↔ D i = some x ∧ P i
theorem Tl.cn {P : Nat → Prop} {D : Nat → Option Ed} {l : List (Nat × Ed)} (h : Tl P D l) {a b : Nat} : Cj (pl l) a b ↔ Cn P D a b := by
  constructor
  · intro c B ha hB
    refine c B ha fun s hs => ?_
    obtain ⟨⟨i, x⟩, hm, rfl⟩ := List.mem_map.1 hs
    obtain ⟨h1, h2⟩ := (h i x).1 hm
    exact hB i x h1 h2
  · intro c B ha hB
    exact c B ha fun i x hx hP => hB (x.u, x.v) (List.mem_map.2 ⟨(i, x), (h i x).2 ⟨hx, hP⟩, rfl⟩)
theorem Tl.pl_lt {n : Nat} {P : Nat → Prop} {D : Nat → Option Ed} {l : List (Nat × Ed)} (h : Tl P D l) (ok : EdOk n D) : ∀ s ∈ pl l, s.1 < n ∧ s.2 < n := fun s hs => by
  obtain ⟨⟨i, x⟩, hm, rfl⟩ := List.mem_map.1 hs
  obtain ⟨_, q1, q2, _⟩ := ok i x ((h i x).1 hm).1
  exact ⟨q1, q2⟩
theorem fEd_one (f : Nat → EdT) (n i : Nat) : fEd f n 1 0 i = ⟨pkN (f i).u n, pkN (f i).v n, (pkN (f i).wt 41 : Int) - 20⟩ := by unfold fEd; simp
theorem tl_new (f : Nat → EdT) (n : Nat) : Tl (fun _ => True) (fD f n 1 0 0) [] := fun i x => by rw [fD_new]; simp
theorem tl_next (f : Nat → EdT) (n k : Nat) {l : List (Nat × Ed)} (h : Tl (fun _ => True) (fD f n 1 0 k) l) (hne : pkN (f k).u n ≠ pkN (f k).v n) : Tl (fun _ => True) (fD f n 1 0 (k + 1)) (l ++ [(k, ⟨pkN (f k).u n, pkN (f k).v n, (pkN (f k).wt 41 : Int) - 20⟩)]) := fun i x => by
  rw [fD_next f n 1 0 k hne, fEd_one, List.mem_append]
  by_cases e : i = k
  · subst e
    rw [upd_same]
    constructor
    · rintro (q | q)
      · have := ((h i x).1 q).1; rw [fD_at] at this; simp at this
      · simp at q; exact ⟨by rw [q], trivial⟩
    · rintro ⟨q, _⟩
      injection q with q
      exact .inr (by rw [q]; simp)
  · rw [upd_other _ _ e]
    constructor
    · rintro (q | q)
      · exact (h i x).1 q
      · simp at q; exact absurd q.1 e
    · exact fun q => .inl ((h i x).2 q)
theorem tl_loop (f : Nat → EdT) (n k : Nat) {l : List (Nat × Ed)} (h : Tl (fun _ => True) (fD f n 1 0 k) l) (he : pkN (f k).u n = pkN (f k).v n) : Tl (fun _ => True) (fD f n 1 0 (k + 1)) l := by
  rw [fD_loop f n 1 0 k he]; exact h
/-- The lighter ones of a list. -/
def lessL (t : Nat) (tw : Int) (l : List (Nat × Ed)) : List (Nat × Ed) := l.filter fun s => decide (s.2.w < tw ∨ (tw = s.2.w ∧ (s.1 : Int) < (t : Int)))
theorem lessL_snoc (t : Nat) (tw : Int) (l : List (Nat × Ed)) (s : Nat × Ed) : lessL t tw (l ++ [s]) = if s.2.w < tw ∨ (tw = s.2.w ∧ (s.1 : Int) < (t : Int)) then lessL t tw l ++ [s] else lessL t tw l := by
  unfold lessL
  rw [List.filter_append]
  by_cases h : s.2.w < tw ∨ (tw = s.2.w ∧ (s.1 : Int) < (t : Int))
  · rw [if_pos h, List.filter_cons_of_pos (by simpa using h)]; rfl
  · rw [if_neg h, List.filter_cons_of_neg (by simpa using h)]; simp
theorem tl_less {D : Nat → Option Ed} {l : List (Nat × Ed)} (h : Tl (fun _ => True) D l) {t : Nat} {y : Ed} (ht : D t = some y) : Tl (fun k => lgt D k t) D (lessL t y.w l) := fun i x => by
  unfold lessL
  rw [List.mem_filter, h i x]
  simp only [decide_eq_true_eq, and_true]
  constructor
  · rintro ⟨q, r⟩
    exact ⟨q, x, y, q, ht, by omega⟩
  · rintro ⟨q, a, b, h1, h2, h3⟩
    rw [q] at h1
    rw [ht] at h2
    injection h1 with h1
    injection h2 with h2
    subst h1
    subst h2
    exact ⟨q, by omega⟩
theorem tl_with {D : Nat → Option Ed} {P : Nat → Prop} {l : List (Nat × Ed)} (h : Tl P D l) {t : Nat} {y : Ed} (ht : D t = some y) : Tl (fun k => k = t ∨ P k) D (l ++ [(t, y)]) := fun i x => by
  rw [List.mem_append, h i x]
  constructor
  · rintro (⟨q, r⟩ | q)
    · exact ⟨q, .inr r⟩
    · simp at q; obtain ⟨rfl, rfl⟩ := q; exact ⟨ht, .inl rfl⟩
  · rintro ⟨q, r | r⟩
    · subst r; rw [ht] at q; injection q with q; exact .inr (by rw [q]; simp)
    · exact .inl ⟨q, r⟩

end Go.Proofs.Ytffmlffhiimmdaa
