/- Groups of names by their sets: there is but one list of them. No program. -/
import Derived.Test.YtmpkhbblakfglaaDoorSameG
namespace Go.Proofs.YtmpkhbblakfglaaDoor
open Go.ChangeShapes Go.WideShapes Go.ChangeAt Go.RowKit Go.Maps
set_option linter.unusedVariables false

theorem pw_uniq {α : Type} {R : α → α → Prop} (irr : ∀ a, ¬ R a a) (asym : ∀ a b, R a b → ¬ R b a) : ∀ (l1 l2 : List α), l1.Pairwise R → l2.Pairwise R → (∀ x, x ∈ l1 ↔ x ∈ l2) → l1 = l2
  | [], [], _, _, _ => rfl
  | [], b :: l2, _, _, h => by have := (h b).2 (List.mem_cons_self ..); cases this
  | a :: l1, [], _, _, h => by have := (h a).1 (List.mem_cons_self ..); cases this
  | a :: l1, b :: l2, h1, h2, h => by
    have p1 := List.pairwise_cons.1 h1
    have p2 := List.pairwise_cons.1 h2
    have e : a = b := by
      rcases List.mem_cons.1 ((h a).1 (List.mem_cons_self ..)) with e | ha
      · exact e
      · rcases List.mem_cons.1 ((h b).2 (List.mem_cons_self ..)) with e | hb
        · exact e.symm
        · exact absurd (p1.1 b hb) (asym b a (p2.1 a ha))
    subst e
    have ih := pw_uniq irr asym l1 l2 p1.2 p2.2 fun x => by
      constructor
      · intro hx
        rcases List.mem_cons.1 ((h x).1 (List.mem_cons_of_mem _ hx)) with e | q
        · subst e; exact absurd (p1.1 x hx) (irr x)
        · exact q
      · intro hx
        rcases List.mem_cons.1 ((h x).2 (List.mem_cons_of_mem _ hx)) with e | q
        · subst e; exact absurd (p2.1 x hx) (irr x)
        · exact q
    rw [ih]
theorem bls_asym (s t : ByteArray) (h : bls s t) : ¬ bls t s := fun k => List.lt_irrefl _ (List.lt_trans h k)
theorem NamesOf.uniq {F : ByteArray → Option Nat} {l1 l2 : List ByteArray} (h1 : NamesOf F l1) (h2 : NamesOf F l2) : l1 = l2 :=
  pw_uniq bls_irrefl bls_asym l1 l2 h1.2 h2.2 fun x => (h1.1 x).trans (h2.1 x).symm
/-- The names of one set. -/
def cls (F : ByteArray → Option Nat) (l : List ByteArray) (s : ByteArray) : List ByteArray := l.filter fun t => F t == F s
theorem cls_mem {F : ByteArray → Option Nat} {l : List ByteArray} {s t : ByteArray} : t ∈ cls F l s ↔ t ∈ l ∧ F t = F s := by simp [cls]
/-- The list of all groups, by their first names. -/
structure Can (F : ByteArray → Option Nat) (l : List ByteArray) (R : List (List ByteArray)) : Prop where
  a : ∀ r, r ∈ R → ∃ s, s ∈ l ∧ r = cls F l s ∧ r.head? = some s
  b : R.Pairwise fun r q => ∃ s t, r.head? = some s ∧ q.head? = some t ∧ bls s t
  c : ∀ s, s ∈ l → cls F l s ∈ R
theorem Can.uniq {F : ByteArray → Option Nat} {l : List ByteArray} {R Q : List (List ByteArray)} (h : Can F l R) (k : Can F l Q) : R = Q := by
  refine pw_uniq (R := fun r q => ∃ s t, r.head? = some s ∧ q.head? = some t ∧ bls s t) ?_ ?_ R Q h.b k.b fun x => ⟨fun hx => ?_, fun hx => ?_⟩
  · rintro a ⟨s, t, h1, h2, h3⟩
    rw [h1] at h2
    cases h2
    exact bls_irrefl _ h3
  · rintro a b ⟨s, t, h1, h2, h3⟩ ⟨s', t', k1, k2, k3⟩
    rw [h2] at k1
    rw [h1] at k2
    cases k1
    cases k2
    exact bls_asym _ _ h3 k3
  · obtain ⟨s, hs, rfl, _⟩ := h.a x hx
    exact k.c s hs
  · obtain ⟨s, hs, rfl, _⟩ := k.a x hx
    exact h.c s hs
/-- A sublist of a rising list is what it has of it. -/
theorem sub_filter {l : List ByteArray} (hl : l.Pairwise bls) {r : List ByteArray} (hs : r.Sublist l) (f : ByteArray → Bool) (hf : ∀ t, t ∈ r ↔ t ∈ l ∧ f t = true) : r = l.filter f :=
  pw_uniq bls_irrefl bls_asym _ _ (hl.sublist hs) (hl.sublist List.filter_sublist) fun x => by rw [hf x, List.mem_filter]
theorem GrpOf.can {F : ByteArray → Option Nat} {l : List ByteArray} {G : Grp} (h : GrpOf F l G) (hn : NamesOf F l) : Can F l (G.map (·.2)) := by
  have grp : ∀ i (hi : i < G.length), ∃ s, (G[i]).2.head? = some s ∧ s ∈ l ∧ (G[i]).2 = cls F l s := fun i hi => by
    have hf := h.full i hi
    cases hg : (G[i]).2 with
    | nil => exact absurd hg hf
    | cons s r =>
      have hs := (h.sets i hi s).1 (by rw [hg]; exact List.mem_cons_self ..)
      refine ⟨s, rfl, hs.1, ?_⟩
      rw [← hg]
      refine sub_filter hn.2 (h.sub i hi) _ fun t => ?_
      rw [h.sets i hi t, hs.2]
      simp
  refine ⟨fun r hr => ?_, ?_, fun s hs => ?_⟩
  · obtain ⟨p, hp, rfl⟩ := List.mem_map.1 hr
    obtain ⟨i, hi, rfl⟩ := List.getElem_of_mem hp
    obtain ⟨s, h1, h2, h3⟩ := grp i hi
    exact ⟨s, h2, h3, h1⟩
  · rw [List.pairwise_iff_getElem]
    intro i j hi hj hij
    simp only [List.length_map] at hi hj
    obtain ⟨a, b, A, B, C, h1, h2, h3⟩ := h.heads i j hi hj hij
    refine ⟨a, b, by simpa using h1, by simpa using h2, ?_⟩
    have := hn.2
    rw [h3] at this
    have q := (List.pairwise_append.1 this).2.1
    exact (List.pairwise_cons.1 q).1 b (by simp)
  · obtain ⟨x, hx⟩ := Option.isSome_iff_exists.1 ((hn.1 s).1 hs)
    obtain ⟨i, hi, e⟩ := h.all s x hs hx
    obtain ⟨t, h1, h2, h3⟩ := grp i hi
    have ht : t ∈ (G[i]).2 := by
      cases hg : (G[i]).2 with
      | nil => rw [hg] at h1; cases h1
      | cons u r => rw [hg] at h1; cases h1; exact List.mem_cons_self ..
    have ht2 := (h.sets i hi t).1 ht
    have e2 : cls F l s = cls F l t := by unfold cls; rw [hx, ht2.2, e]
    rw [e2, ← h3]
    exact List.mem_map.2 ⟨G[i], List.getElem_mem hi, rfl⟩

/-- The first names, and whole groups: as one goes along. -/
def isF (xs : List Nat) (i : Nat) : Bool := (List.range i).all fun k => xs.getD k 0 != xs.getD i 0
def gTo (NL : List ByteArray) (xs : List Nat) (i k : Nat) : List ByteArray := ((List.range' i (k - i)).filter fun j => xs.getD j 0 == xs.getD i 0).map fun j => NL.getD j ⟨#[]⟩
def rG (NL : List ByteArray) (xs : List Nat) (m : Nat) : Nat → Grp
  | 0 => []
  | i + 1 => if isF xs i then rG NL xs m i ++ [(xs.getD i 0, gTo NL xs i m)] else rG NL xs m i
theorem gTo_next (NL : List ByteArray) (xs : List Nat) (i k : Nat) (h : i ≤ k) : gTo NL xs i (k + 1) = if xs.getD k 0 = xs.getD i 0 then gTo NL xs i k ++ [NL.getD k ⟨#[]⟩] else gTo NL xs i k := by
  unfold gTo
  have e : k + 1 - i = (k - i) + 1 := by omega
  rw [e, List.range'_concat, List.filter_append, List.map_append]
  have e2 : i + 1 * (k - i) = k := by omega
  rw [e2]
  by_cases hx : xs.getD k 0 = xs.getD i 0
  · have hp : (xs.getD k 0 == xs.getD i 0) = true := by rw [hx]; exact beq_self_eq_true _
    rw [if_pos hx, List.filter_cons, if_pos hp]
    rfl
  · have hp : (xs.getD k 0 == xs.getD i 0) = false := beq_eq_false_iff_ne.2 hx
    rw [if_neg hx, List.filter_cons, if_neg (by rw [hp]; decide)]
    simp
theorem gTo_start (NL : List ByteArray) (xs : List Nat) (i : Nat) : gTo NL xs i i = [] := by simp [gTo]
theorem rG_len (NL : List ByteArray) (xs : List Nat) (m : Nat) : ∀ i, (rG NL xs m i).length ≤ i
  | 0 => Nat.le_refl _
  | i + 1 => by
    have := rG_len NL xs m i
    unfold rG
    split
    · simp; omega
    · omega
theorem getD_lt (NL : List ByteArray) (i : Nat) (h : i < NL.length) : NL.getD i ⟨#[]⟩ = NL[i] := by simp [List.getD, List.getElem?_eq_getElem h]
theorem isF_false {xs : List Nat} {i : Nat} (h : ¬ isF xs i = true) : ∃ k, k < i ∧ xs.getD k 0 = xs.getD i 0 := by
  unfold isF at h
  rw [List.all_eq_true] at h
  refine Classical.byContradiction fun hn => h fun k hk => ?_
  rw [bne_iff_ne]
  exact fun e => hn ⟨k, List.mem_range.1 hk, e⟩
theorem isF_true {xs : List Nat} {i : Nat} (h : isF xs i = true) : ∀ k, k < i → xs.getD k 0 ≠ xs.getD i 0 := fun k hk => by
  unfold isF at h
  have := List.all_eq_true.1 h k (List.mem_range.2 hk)
  rwa [bne_iff_ne] at this
theorem map_range (NL : List ByteArray) : (List.range NL.length).map (fun j => NL.getD j ⟨#[]⟩) = NL := by
  apply List.ext_getElem
  · simp
  · intro i h1 h2
    simp only [List.getElem_map, List.getElem_range]
    exact getD_lt NL i h2
theorem gTo_cls {F : ByteArray → Option Nat} {NL : List ByteArray} {xs : List Nat} {m : Nat} (hm : NL.length = m) (hX : ∀ i, i < m → F (NL.getD i ⟨#[]⟩) = some (xs.getD i 0)) {i : Nat} (hi : i < m) (hf : isF xs i = true) : gTo NL xs i m = cls F NL (NL.getD i ⟨#[]⟩) := by
  unfold cls
  have e : NL.filter (fun t => F t == F (NL.getD i ⟨#[]⟩)) = ((List.range NL.length).map (fun j => NL.getD j ⟨#[]⟩)).filter (fun t => F t == F (NL.getD i ⟨#[]⟩)) := by rw [map_range]
  rw [e, List.filter_map, hm]
  unfold gTo
  have e2 : List.range m = List.range i ++ List.range' i (m - i) := by
    rw [List.range_eq_range', List.range_eq_range']
    have h := @List.range'_append 0 i (m - i) 1
    simp only [Nat.one_mul, Nat.zero_add] at h
    rw [h, show i + (m - i) = m by omega]
  rw [e2, List.filter_append, List.map_append]
  have e3 : (List.range i).filter ((fun t => F t == F (NL.getD i ⟨#[]⟩)) ∘ fun j => NL.getD j ⟨#[]⟩) = [] := by
    rw [List.filter_eq_nil_iff]
    intro k hk
    have hk' := List.mem_range.1 hk
    have h1 := isF_true hf k hk'
    simp only [Function.comp]
    rw [hX k (by omega), hX i hi]
    simpa using h1
  rw [e3, List.map_nil, List.nil_append]
  congr 1
  refine List.filter_congr fun k hk => ?_
  have hk' := List.mem_range'_1.1 hk
  simp only [Function.comp]
  rw [hX k (by omega), hX i hi]
  simp
theorem gTo_head (NL : List ByteArray) (xs : List Nat) (i m : Nat) (h : i < m) : (gTo NL xs i m).head? = some (NL.getD i ⟨#[]⟩) := by
  unfold gTo
  have e : m - i = (m - i - 1) + 1 := by omega
  rw [e, List.range'_succ, List.filter_cons, if_pos (beq_self_eq_true _)]
  rfl
theorem rG_can {F : ByteArray → Option Nat} {NL : List ByteArray} {xs : List Nat} {m : Nat} (hn : NamesOf F NL) (hm : NL.length = m) (hX : ∀ i, i < m → F (NL.getD i ⟨#[]⟩) = some (xs.getD i 0)) : Can F NL ((rG NL xs m m).map (·.2)) := by
  have lt : ∀ j i, j < i → i < m → bls (NL.getD j ⟨#[]⟩) (NL.getD i ⟨#[]⟩) := fun j i h1 h2 => by
    rw [getD_lt NL j (by omega), getD_lt NL i (by omega)]
    exact List.pairwise_iff_getElem.1 hn.2 j i (by omega) (by omega) h1
  have key : ∀ i, i ≤ m → (∀ r, r ∈ (rG NL xs m i).map (·.2) → ∃ j, j < i ∧ r = cls F NL (NL.getD j ⟨#[]⟩) ∧ r.head? = some (NL.getD j ⟨#[]⟩)) ∧ ((rG NL xs m i).map (·.2)).Pairwise (fun r q => ∃ s t, r.head? = some s ∧ q.head? = some t ∧ bls s t) ∧ ∀ j, j < i → cls F NL (NL.getD j ⟨#[]⟩) ∈ (rG NL xs m i).map (·.2) := fun i => by
    induction i with
    | zero => exact fun _ => ⟨fun r hr => by simp [rG] at hr, by simp [rG], fun j hj => by omega⟩
    | succ i ih =>
      intro hi
      obtain ⟨ha, hb, hc⟩ := ih (by omega)
      unfold rG
      by_cases hf : isF xs i = true
      · rw [if_pos hf, List.map_append, List.map_cons, List.map_nil, gTo_cls hm hX (by omega) hf]
        have hh : (cls F NL (NL.getD i ⟨#[]⟩)).head? = some (NL.getD i ⟨#[]⟩) := by rw [← gTo_cls hm hX (by omega) hf]; exact gTo_head NL xs i m (by omega)
        refine ⟨fun r hr => ?_, ?_, fun j hj => ?_⟩
        · rcases List.mem_append.1 hr with h | h
          · obtain ⟨j, h1, h2⟩ := ha r h
            exact ⟨j, by omega, h2⟩
          · rw [List.mem_singleton] at h
            subst h
            exact ⟨i, by omega, rfl, hh⟩
        · refine List.pairwise_append.2 ⟨hb, List.pairwise_singleton _ _, fun r hr q hq => ?_⟩
          rw [List.mem_singleton] at hq
          subst hq
          obtain ⟨j, h1, _, h3⟩ := ha r hr
          exact ⟨_, _, h3, hh, lt j i h1 (by omega)⟩
        · by_cases e : j = i
          · subst e; exact List.mem_append_right _ (List.mem_singleton.2 rfl)
          · exact List.mem_append_left _ (hc j (by omega))
      · rw [if_neg hf]
        refine ⟨fun r hr => ?_, hb, fun j hj => ?_⟩
        · obtain ⟨j, h1, h2⟩ := ha r hr
          exact ⟨j, by omega, h2⟩
        · by_cases e : j = i
          · subst e
            obtain ⟨k, hk, hx⟩ := isF_false hf
            have e2 : cls F NL (NL.getD j ⟨#[]⟩) = cls F NL (NL.getD k ⟨#[]⟩) := by unfold cls; rw [hX j (by omega), hX k (by omega), hx]
            rw [e2]
            exact hc k hk
          · exact hc j (by omega)
  obtain ⟨ha, hb, hc⟩ := key m (Nat.le_refl _)
  refine ⟨fun r hr => ?_, hb, fun s hs => ?_⟩
  · obtain ⟨j, h1, h2⟩ := ha r hr
    exact ⟨_, by rw [getD_lt NL j (by omega)]; exact List.getElem_mem _, h2⟩
  · obtain ⟨j, hj, rfl⟩ := List.getElem_of_mem hs
    rw [← getD_lt NL j hj]
    exact hc j (by omega)
end Go.Proofs.YtmpkhbblakfglaaDoor
