/- Edges in rows; components by a list of edges; which of n things a number speaks of. -/
import Derived.Test.YtanahbkkgppfnaaAns8
import Derived.Deep.LoopGhost
namespace Go.Proofs.Ytanahbkkgppfnaa
open Go.ChangeShapes Go.WideShapes Go.ChangeAt Go.RowKit
set_option linter.unusedVariables false

def ev8 (x : EdT) : List Value := [.int .i64 x.id, .int .i64 x.u, .int .i64 x.v, .int .i64 x.wt]
def eev (l : List EdT) : List Value := l.flatMap ev8
theorem eev_len (l : List EdT) : (eev l).length = l.length * 4 := by
  induction l with
  | nil => rfl
  | cons x l ih => simp only [eev, List.flatMap_cons, List.length_append] at ih ⊢; rw [ih]; simp [ev8]; omega
theorem eev_append (l m : List EdT) : eev (l ++ m) = eev l ++ eev m := by simp [eev]
theorem eev_get : ∀ (l : List EdT) (j c : Nat) (hj : j < l.length) (hc : c < 4), (eev l)[j * 4 + c]? = (ev8 l[j])[c]?
  | x :: l, 0, c, _, hc => by
    simp only [eev, List.flatMap_cons, Nat.zero_mul, Nat.zero_add, List.getElem_cons_zero]
    rw [List.getElem?_append_left (by simp [ev8]; omega)]
  | x :: l, j + 1, c, hj, hc => by
    simp only [eev, List.flatMap_cons, List.getElem_cons_succ]
    have e : (j + 1) * 4 + c = (ev8 x).length + (j * 4 + c) := by simp [ev8]; omega
    rw [e, List.getElem?_append_right (by omega), Nat.add_sub_cancel_left]
    exact eev_get l j c (by simpa using hj) hc
theorem eev_one (l : List EdT) : ∀ u ∈ eev l, u.oneCell' = true := fun u hu => by
  obtain ⟨s, _, hs⟩ := List.mem_flatMap.1 hu
  simp [ev8] at hs
  rcases hs with rfl | rfl | rfl | rfl <;> rfl
theorem infoEdge : (Try.prog.info? 36).map (fun i => (i.zero, i.size, i.bytes)) = some (some (.agg #[.int .i64 0, .int .i64 0, .int .i64 0, .int .i64 0]), 4, 32) := by kernel_rfl
theorem Row.vwe {w : World} {o : Nat → Nat} {i : Nat} {v : Value} {l : List EdT} (h : Row w o i 36 4 v l.length (eev l)) : VwE w o i v l := by
  by_cases h0 : 0 < l.length
  · obtain ⟨g, cap, rfl, hg, hc, hm, hlt, hcell, hfr⟩ := h.pos h0
    refine ⟨_, cap, rfl, hc, hm, fun _ => ⟨g, 0, rfl, hg, hlt, fun j hj => ?_⟩⟩
    have e0 := eev_get l j 0 hj (by omega)
    have e1 := eev_get l j 1 hj (by omega)
    have e2 := eev_get l j 2 hj (by omega)
    have e3 := eev_get l j 3 hj (by omega)
    rw [Nat.zero_add, hcell (j * 4) (by omega), hcell (j * 4 + 1) (by omega), hcell (j * 4 + 2) (by omega), hcell (j * 4 + 3) (by omega), e1, e2, e3]
    exact ⟨e0, rfl, rfl, rfl⟩
  · rcases h.1.2 with ⟨rfl, _⟩ | ⟨g, cap, cur, rfl, _, _, hc, hm, _⟩
    · exact ⟨none, 0, by rw [show l.length = 0 by omega], by omega, by unfold maxLen; omega, fun h => absurd h h0⟩
    · exact ⟨_, cap, rfl, hc, hm, fun h => absurd h h0⟩
/-- A stretch of a row's edges, cell by cell. -/
theorem eev_cells {w : World} {o : Nat → Nat} {i g cap : Nat} {l A M Z : List EdT} (h : Row w o i 36 4 (.slice (some ⟨g, 0, none⟩) l.length cap) l.length (eev l)) (hl : l = A ++ (M ++ Z)) : ∀ j u, (eev M)[j]? = some u → w.cell? ((⟨g, A.length * 4, none⟩ : Addr).add j) = some u := by
  intro j u hj
  have hjl := (List.getElem?_eq_some_iff.1 hj).1
  rw [eev_len] at hjl
  have hll : l.length = A.length + (M.length + Z.length) := by rw [hl]; simp
  obtain ⟨g', cap', hv', _, _, _, _, hcell', _⟩ := h.pos (by omega)
  simp only [Value.slice.injEq, Option.some.injEq, Addr.mk.injEq, and_true, true_and] at hv'
  obtain ⟨rfl, _⟩ := hv'
  have hx : (eev l)[A.length * 4 + j]? = some u := by
    rw [hl, eev_append, eev_append, List.getElem?_append_right (by rw [eev_len]; omega), eev_len, show A.length * 4 + j - A.length * 4 = j by omega, List.getElem?_append_left (by rw [eev_len]; omega)]
    exact hj
  have := hcell' (A.length * 4 + j) (by omega)
  rw [hx] at this
  unfold Addr.add
  by_cases j0 : j = 0
  · subst j0; simpa using this
  · simpa [j0] using this

/-- A slice of edges, only read: their ends. -/
def VwP (w : World) (o : Nat → Nat) (i : Nat) (v : Value) (l : List (Nat × Nat)) : Prop :=
  ∃ ao cap, v = .slice ao l.length cap ∧ l.length ≤ cap ∧ cap ≤ maxLen ∧ (0 < l.length → ∃ g off, ao = some ⟨g, off, none⟩ ∧ o g = i ∧ g < w.heap.size ∧ ∀ j (hj : j < l.length), w.cell? ⟨g, off + j * 4 + 1, none⟩ = some (.int .i64 (l[j].1 : Nat)) ∧ w.cell? ⟨g, off + j * 4 + 2, none⟩ = some (.int .i64 (l[j].2 : Nat)))
theorem VwP.step {I : Nat → Prop} {w w' : World} {o o' : Nat → Nat} {i : Nat} {v : Value} {l : List (Nat × Nat)} (h : VwP w o i v l) (s : Step I w o w' o') (hi : ¬ I i) : VwP w' o' i v l := by
  obtain ⟨ao, cap, rfl, hc, hm, hp⟩ := h
  refine ⟨ao, cap, rfl, hc, hm, fun h0 => ?_⟩
  obtain ⟨g, off, h1, h2, h3, h4⟩ := hp h0
  refine ⟨g, off, h1, (s.lab g h3).trans h2, Nat.lt_of_lt_of_le h3 s.size, fun j hj => ?_⟩
  have hc := fun k => s.cell h3 (by rw [h2]; exact hi) k
  exact ⟨(hc _).trans (h4 j hj).1, (hc _).trans (h4 j hj).2⟩
theorem VwE.vwp {w : World} {o : Nat → Nat} {i : Nat} {v : Value} {es : List EdT} (h : VwE w o i v es) (hp : ∀ x, x ∈ es → 0 ≤ x.u ∧ 0 ≤ x.v) : VwP w o i v (ends es) := by
  obtain ⟨ao, cap, rfl, hc, hm, hq⟩ := h
  refine ⟨ao, cap, by rw [ends_len], by rw [ends_len]; exact hc, hm, fun h0 => ?_⟩
  rw [ends_len] at h0
  obtain ⟨g, off, h1, h2, h3, h4⟩ := hq h0
  refine ⟨g, off, h1, h2, h3, fun j hj => ?_⟩
  rw [ends_len] at hj
  obtain ⟨_, k1, k2, _⟩ := h4 j hj
  obtain ⟨p1, p2⟩ := hp _ (List.getElem_mem hj)
  have e1 : (ends es)[j] = (es[j].u.toNat, es[j].v.toNat) := by simp [ends]
  rw [e1]
  refine ⟨k1.trans ?_, k2.trans ?_⟩
  · congr 2; simp only; omega
  · congr 2; simp only; omega
/-- Joined by the edges of a list. -/
def Cj (l : List (Nat × Nat)) (a b : Nat) : Prop := ∀ B : Nat → Prop, B a → (∀ s ∈ l, (B s.1 ↔ B s.2)) → B b
theorem Cj.refl {l : List (Nat × Nat)} {a : Nat} : Cj l a a := fun B h _ => h
theorem Cj.trans {l : List (Nat × Nat)} {a b c : Nat} (h : Cj l a b) (k : Cj l b c) : Cj l a c := fun B ha hB => k B (h B ha hB) hB
theorem Cj.edge {l : List (Nat × Nat)} {s : Nat × Nat} (hs : s ∈ l) : Cj l s.1 s.2 := fun B hu hB => (hB s hs).1 hu
theorem Cj.edge' {l : List (Nat × Nat)} {s : Nat × Nat} (hs : s ∈ l) : Cj l s.2 s.1 := fun B hu hB => (hB s hs).2 hu
theorem Cj.symm {l : List (Nat × Nat)} {a b : Nat} (h : Cj l a b) : Cj l b a :=
  h (fun z => Cj l z a) Cj.refl fun s hs => ⟨fun k => (Cj.edge' hs).trans k, fun k => (Cj.edge hs).trans k⟩
theorem cj_all {l : List (Nat × Nat)} {a b : Nat} : Cj l a b ↔ Jn l (fun _ => True) a b :=
  ⟨fun h B ha hB => h B ha (fun s hs => by obtain ⟨i, hi, rfl⟩ := List.getElem_of_mem hs; exact hB i _ (List.getElem?_eq_getElem hi) trivial), fun h B ha hB => h B ha (fun i x hx _ => hB x (List.mem_of_getElem? hx))⟩
/-- Without the k-th edge. -/
theorem cj_rest {l : List (Nat × Nat)} {k a b : Nat} : Cj (l.take k ++ l.drop (k + 1)) a b ↔ Jn l (fun i => i ≠ k) a b := by
  constructor
  · intro h B ha hB
    refine h B ha fun s hs => ?_
    rcases List.mem_append.1 hs with q | q
    · obtain ⟨i, hi, rfl⟩ := List.getElem_of_mem q
      rw [List.length_take] at hi
      rw [List.getElem_take]
      exact hB i _ (List.getElem?_eq_getElem (by omega)) (by omega)
    · obtain ⟨i, hi, rfl⟩ := List.getElem_of_mem q
      rw [List.length_drop] at hi
      rw [List.getElem_drop]
      exact hB (k + 1 + i) _ (List.getElem?_eq_getElem (by omega)) (by omega)
  · intro h B ha hB
    refine h B ha fun i x hx hi => hB x ?_
    obtain ⟨hl, rfl⟩ := List.getElem?_eq_some_iff.1 hx
    by_cases q : i < k
    · exact List.mem_append_left _ (List.mem_take_iff_getElem.2 ⟨i, by omega, rfl⟩)
    · exact List.mem_append_right _ (List.mem_drop_iff_getElem.2 ⟨i - (k + 1), by omega, by congr 1; omega⟩)

end Go.Proofs.Ytanahbkkgppfnaa
