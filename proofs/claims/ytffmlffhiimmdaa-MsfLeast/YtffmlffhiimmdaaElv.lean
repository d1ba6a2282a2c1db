/- Edges in a slice; components by a list of edges (the document's own function). -/
import Derived.Test.YtffmlffhiimmdaaFill7
namespace Go.Proofs.Ytffmlffhiimmdaa
open Go.ChangeShapes Go.WideShapes Go.ChangeAt Go.RowKit
set_option linter.unusedVariables false

def ev (x : Nat × Ed) : List Value := [.int .i64 (x.1 : Nat), .int .i64 (x.2.u : Nat), .int .i64 (x.2.v : Nat), .int .i64 x.2.w]
def elv (l : List (Nat × Ed)) : List Value := l.flatMap ev
theorem elv_len (l : List (Nat × Ed)) : (elv l).length = l.length * 4 := by
  induction l with
  | nil => rfl
  | cons x l ih => simp only [elv, List.flatMap_cons, List.length_append] at ih ⊢; rw [ih]; simp [ev]; omega
theorem elv_snoc (l : List (Nat × Ed)) (x : Nat × Ed) : elv (l ++ [x]) = elv l ++ ev x := by simp [elv]
theorem elv_get : ∀ (l : List (Nat × Ed)) (j c : Nat) (hj : j < l.length) (hc : c < 4), (elv l)[j * 4 + c]? = (ev l[j])[c]?
  | x :: l, 0, c, _, hc => by
    simp only [elv, List.flatMap_cons, Nat.zero_mul, Nat.zero_add, List.getElem_cons_zero]
    rw [List.getElem?_append_left (by simp [ev]; omega)]
  | x :: l, j + 1, c, hj, hc => by
    simp only [elv, List.flatMap_cons, List.getElem_cons_succ]
    have e : (j + 1) * 4 + c = (ev x).length + (j * 4 + c) := by simp [ev]; omega
    rw [e, List.getElem?_append_right (by omega), Nat.add_sub_cancel_left]
    exact elv_get l j c (by simpa using hj) hc
theorem infoEdge : (Try.prog.info? 43).map (fun i => (i.zero, i.size, i.bytes)) = some (some (.agg #[.int .i64 0, .int .i64 0, .int .i64 0, .int .i64 0]), 4, 32) := by kernel_rfl


/-- A slice of edges, only read: their ends. -/
def VwP (w : World) (o : Nat → Nat) (i : Nat) (v : Value) (l : List (Nat × Nat)) : Prop :=
  ∃ ao cap, v = .slice ao l.length cap ∧ l.length ≤ cap ∧ cap ≤ maxLen ∧ (0 < l.length → ∃ g off, ao = some ⟨g, off, none⟩ ∧ o g = i ∧ g < w.heap.size ∧ ∀ j (hj : j < l.length), w.cell? ⟨g, off + j * 4 + 1, none⟩ = some (.int .i64 (l[j].1 : Nat)) ∧ w.cell? ⟨g, off + j * 4 + 2, none⟩ = some (.int .i64 (l[j].2 : Nat)))
theorem VwP.step {I : Nat → Prop} {w w' : World} {o o' : Nat → Nat} {i : Nat} {v : Value} {l : List (Nat × Nat)} (h : VwP w o i v l) (s : Step I w o w' o') (hi : ¬ I i) : VwP w' o' i v l := by
  obtain ⟨ao, cap, rfl, hc, hm, hp⟩ := h
  refine ⟨ao, cap, rfl, hc, hm, fun h0 => ?_⟩
  obtain ⟨g, off, h1, h2, h3, h4⟩ := hp h0
  refine ⟨g, off, h1, (s.lab g h3).trans h2, Nat.lt_of_lt_of_le h3 s.size, fun j hj => ?_⟩
  have hc := fun k => s.cell h3 (by rw [h2]; exact hi) k
  exact ⟨(hc _).trans (h4 j hj).1, (hc _).trans (h4 j hj).2⟩
/-- The ends of a list's edges. -/
def pl (l : List (Nat × Ed)) : List (Nat × Nat) := l.map fun x => (x.2.u, x.2.v)
theorem Row.vwp {w : World} {o : Nat → Nat} {i : Nat} {v : Value} {l : List (Nat × Ed)} (h : Row w o i 43 4 v l.length (elv l)) : VwP w o i v (pl l) := by
  have hl : (pl l).length = l.length := by simp [pl]
  by_cases h0 : 0 < l.length
  · obtain ⟨g, cap, rfl, hg, hc, hm, hlt, hcell, hfr⟩ := h.pos h0
    refine ⟨_, cap, by rw [hl], by omega, hm, fun _ => ⟨g, 0, rfl, hg, hlt, fun j hj => ?_⟩⟩
    rw [hl] at hj
    have e1 : (pl l)[j] = (l[j].2.u, l[j].2.v) := by simp [pl]
    rw [e1, Nat.zero_add, hcell _ (by omega), hcell _ (by omega), elv_get l j 1 hj (by omega), elv_get l j 2 hj (by omega)]
    exact ⟨rfl, rfl⟩
  · rcases h.1.2 with ⟨rfl, _⟩ | ⟨g, cap, cur, rfl, _, _, hc, hm, _⟩
    · exact ⟨none, 0, by rw [hl, show l.length = 0 by omega], by omega, by unfold maxLen; omega, fun h => absurd h (by omega)⟩
    · exact ⟨_, cap, by rw [hl], by omega, hm, fun h => absurd h (by omega)⟩
theorem elv_append (l m : List (Nat × Ed)) : elv (l ++ m) = elv l ++ elv m := by simp [elv]
theorem elv_one (l : List (Nat × Ed)) : ∀ u ∈ elv l, u.oneCell' = true := fun u hu => by
  obtain ⟨s, _, hs⟩ := List.mem_flatMap.1 hu
  simp [ev] at hs
  rcases hs with rfl | rfl | rfl | rfl <;> rfl
theorem elv_cells {w : World} {o : Nat → Nat} {i g cap : Nat} {l : List (Nat × Ed)} (r m : Nat) (h : Row w o i 43 4 (.slice (some ⟨g, 0, none⟩) l.length cap) l.length (elv l)) : ∀ j u, (elv ((l.drop r).take m))[j]? = some u → w.cell? ((⟨g, r * 4, none⟩ : Addr).add j) = some u := fun j u hj => by
  have hjl := (List.getElem?_eq_some_iff.1 hj).1
  rw [elv_len, List.length_take, List.length_drop] at hjl
  obtain ⟨g', cap', hv', _, _, _, _, hcell', _⟩ := h.pos (by omega)
  simp only [Value.slice.injEq, Option.some.injEq, Addr.mk.injEq, and_true, true_and] at hv'
  obtain ⟨rfl, _⟩ := hv'
  have e : l = l.take r ++ ((l.drop r).take m ++ (l.drop r).drop m) := by rw [List.take_append_drop, List.take_append_drop]
  have hx : (elv l)[r * 4 + j]? = some u := by
    rw [e, elv_append, elv_append, List.getElem?_append_right (by rw [elv_len, List.length_take]; omega), elv_len, List.length_take, Nat.min_eq_left (by omega), show r * 4 + j - r * 4 = j by omega, List.getElem?_append_left (List.getElem?_eq_some_iff.1 hj).1]
    exact hj
  have := hcell' (r * 4 + j) (by omega)
  rw [hx] at this
  unfold Addr.add
  by_cases j0 : j = 0
  · subst j0; simpa using this
  · simpa [j0] using this


/-- Joined by the edges of a list. -/
def Cj (l : List (Nat × Nat)) (a b : Nat) : Prop := ∀ B : Nat → Prop, B a → (∀ s ∈ l, (B s.1 ↔ B s.2)) → B b
theorem Cj.refl {l : List (Nat × Nat)} {a : Nat} : Cj l a a := fun B h _ => h
theorem Cj.trans {l : List (Nat × Nat)} {a b c : Nat} (h : Cj l a b) (k : Cj l b c) : Cj l a c := fun B ha hB => k B (h B ha hB) hB
theorem Cj.edge {l : List (Nat × Nat)} {s : Nat × Nat} (hs : s ∈ l) : Cj l s.1 s.2 := fun B hu hB => (hB s hs).1 hu
theorem Cj.edge' {l : List (Nat × Nat)} {s : Nat × Nat} (hs : s ∈ l) : Cj l s.2 s.1 := fun B hu hB => (hB s hs).2 hu
theorem Cj.symm {l : List (Nat × Nat)} {a b : Nat} (h : Cj l a b) : Cj l b a :=
  h (fun z => Cj l z a) Cj.refl fun s hs => ⟨fun k => (Cj.edge' hs).trans k, fun k => (Cj.edge hs).trans k⟩
def natsF (b : Nat → Nat) (n : Nat) : List Value := (List.range n).map (fun v => Value.int .i64 (b v : Nat))
theorem natsF_len (b : Nat → Nat) (n : Nat) : (natsF b n).length = n := by simp [natsF]
theorem natsF_get (b : Nat → Nat) {n v : Nat} (h : v < n) : (natsF b n)[v]? = some (.int .i64 (b v : Nat)) := by simp [natsF, h]
theorem natsF_set (b : Nat → Nat) {n u x : Nat} (h : u < n) : (natsF b n).set u (.int .i64 (x : Nat)) = natsF (fun w => if w = u then x else b w) n := by
  apply List.ext_getElem?
  intro i
  rw [List.getElem?_set]
  by_cases hi : i < n
  · rw [natsF_get (fun w => if w = u then x else b w) hi]
    by_cases e : u = i
    · subst e; simp [natsF_len, h]
    · have : ¬ i = u := fun x => e x.symm
      rw [if_neg e, natsF_get b hi]
      simp [this]
  · have h1 : (natsF (fun w => if w = u then x else b w) n)[i]? = none := List.getElem?_eq_none (by rw [natsF_len]; omega)
    have h2 : (natsF b n)[i]? = none := List.getElem?_eq_none (by rw [natsF_len]; omega)
    rw [h1, h2]
    by_cases e : u = i
    · omega
    · simp [e]
/-- The sum of so many numbers. -/
def sumN (b : Nat → Nat) : Nat → Nat
  | 0 => 0
  | n + 1 => sumN b n + b n
theorem sumN_le {b c : Nat → Nat} : ∀ n, (∀ v, v < n → c v ≤ b v) → sumN c n ≤ sumN b n
  | 0, _ => Nat.le_refl _
  | n + 1, h => by
    have := sumN_le n (fun v hv => h v (by omega))
    have := h n (by omega)
    simp only [sumN]; omega
theorem sumN_lt {b c : Nat → Nat} : ∀ n, (∀ v, v < n → c v ≤ b v) → (∃ v, v < n ∧ c v < b v) → sumN c n < sumN b n
  | 0, _, ⟨v, hv, _⟩ => by omega
  | n + 1, h, ⟨v, hv, hl⟩ => by
    simp only [sumN]
    by_cases e : v = n
    · subst e
      have := sumN_le v (fun w hw => h w (by omega))
      omega
    · have := sumN_lt n (fun w hw => h w (by omega)) ⟨v, by omega, hl⟩
      have := h n (by omega)
      omega

end Go.Proofs.Ytffmlffhiimmdaa
