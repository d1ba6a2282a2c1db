/- Edges and marked edges by lists: what a link, a cut and a mark do to them. No program. -/
import Derived.Test.YtnpfagpgploolaaJoinA
import Derived.Test.YtnpfagpgploolaaMarkA
namespace Go.Proofs.Ytnpfagpgploolaa
set_option linter.unusedVariables false

/-- No edge twice, whichever way it is told. -/
def Once (l : List (Nat × Nat)) : Prop := l.Pairwise (fun s t => s ≠ t ∧ s ≠ (t.2, t.1))
/-- A list without an edge. -/
structure Out (l l' : List (Nat × Nat)) (u v : Nat) : Prop where
  mem : ∀ s, s ∈ l' ↔ s ∈ l ∧ s ≠ (u, v) ∧ s ≠ (v, u)
  once : Once l'
  len : l'.length ≤ l.length
theorem Out.none {l : List (Nat × Nat)} {u v : Nat} (h : Once l) (hn : ∀ s ∈ l, s ≠ (u, v) ∧ s ≠ (v, u)) : Out l l u v := ⟨fun s => ⟨fun hs => ⟨hs, hn s hs⟩, fun hs => hs.1⟩, h, Nat.le_refl _⟩
theorem Out.at {l : List (Nat × Nat)} {u v k : Nat} (h : Once l) (hk : k < l.length) (he : l[k] = (u, v) ∨ l[k] = (v, u)) : Out l (l.take k ++ l.drop (k + 1)) u v := by
  have e : l = l.take k ++ l[k] :: l.drop (k + 1) := by rw [← List.drop_eq_getElem_cons hk, List.take_append_drop]
  have h' := h
  unfold Once at h'
  rw [e, List.pairwise_append, List.pairwise_cons] at h'
  obtain ⟨h1, ⟨h2, h3⟩, h4⟩ := h'
  have sw : ∀ s : Nat × Nat, (s ≠ l[k] ∧ s ≠ (l[k].2, l[k].1)) → s ≠ (u, v) ∧ s ≠ (v, u) := fun s hs => by
    rcases he with q | q <;> rw [q] at hs
    · exact hs
    · exact ⟨hs.2, hs.1⟩
  have sw2 : ∀ s : Nat × Nat, (l[k] ≠ s ∧ l[k] ≠ (s.2, s.1)) → s ≠ (u, v) ∧ s ≠ (v, u) := fun s hs => sw s ⟨fun q => hs.1 q.symm, fun q => hs.2 (by rw [q])⟩
  refine ⟨fun s => ?_, ?_, by simp; omega⟩
  · constructor
    · intro hs
      rcases List.mem_append.1 hs with hs | hs
      · exact ⟨List.mem_of_mem_take hs, sw s (h4 s hs _ List.mem_cons_self)⟩
      · exact ⟨List.mem_of_mem_drop hs, sw2 s (h2 s hs)⟩
    · rintro ⟨hs, q1, q2⟩
      rw [e] at hs
      rcases List.mem_append.1 hs with hs | hs
      · exact List.mem_append.2 (.inl hs)
      · rcases List.mem_cons.1 hs with hs | hs
        · rcases he with q | q
          · exact absurd (hs.trans q) q1
          · exact absurd (hs.trans q) q2
        · exact List.mem_append.2 (.inr hs)
  · show List.Pairwise _ _
    rw [List.pairwise_append]
    exact ⟨h1, h3, fun a ha b hb => h4 a ha b (List.mem_cons_of_mem _ hb)⟩
/-- What the books say: edges, marked edges. -/
structure Books (n : Nat) (Y : Nat → List (Nat × Nat)) (mk : Nat × Nat → Bool) (l on : List (Nat × Nat)) (c : Nat) : Prop where
  told : Told n Y l
  once : Once l
  sub : ∀ s ∈ on, s ∈ l ∨ (s.2, s.1) ∈ l
  once2 : Once on
  mark : ∀ a b, ((a, b) ∈ l ∨ (b, a) ∈ l) → (mk (a, b) = true ↔ (a, b) ∈ on ∨ (b, a) ∈ on)
  stop : ∀ v, mk (v, v) = false
  len : l.length ≤ c
  len2 : on.length ≤ c
theorem Books.new (n : Nat) : Books n (fun v => [(v, v)]) (fun _ => false) [] [] 0 :=
  ⟨Told.new n, List.Pairwise.nil, fun s hs => by simp at hs, List.Pairwise.nil, fun a b h => by simp at h, fun _ => rfl, Nat.le_refl _, Nat.le_refl _⟩
theorem Books.more {n : Nat} {Y : Nat → List (Nat × Nat)} {mk : Nat × Nat → Bool} {l on : List (Nat × Nat)} {c : Nat} (B : Books n Y mk l on c) : Books n Y mk l on (c + 1) := ⟨B.told, B.once, B.sub, B.once2, B.mark, B.stop, Nat.le_succ_of_le B.len, Nat.le_succ_of_le B.len2⟩
/-- Linked. -/
theorem Books.link {n ms u v : Nat} {Y : Nat → List (Nat × Nat)} {mk : Nat × Nat → Bool} {l on : List (Nat × Nat)} {c : Nat} (E : Eu n ms Y) (B : Books n Y mk l on c) (hu : u < n) (hv : v < n) (hne : Y u ≠ Y v) :
    Books n (setY Y (linkX (Y u) (Y v) u v)) (updM (updM mk (u, v) false) (v, u) false) (l ++ [(u, v)]) on (c + 1) := by
  have huv : u ≠ v := fun e => hne (by rw [e])
  have no : ∀ s ∈ l, s ≠ (u, v) ∧ s ≠ (v, u) := fun s hs => by
    obtain ⟨h1, h2, h3⟩ := B.told.lt s hs
    have hm := (B.told.has s.1 s.2 h1 h2 h3).2 (.inl hs)
    have e : Y s.2 = Y s.1 := (E.one s.1 h1 _ hm).2.2.2
    exact ⟨fun q => hne (by rw [q] at e; exact e.symm), fun q => hne (by rw [q] at e; exact e)⟩
  refine ⟨B.told.link E hu hv hne, ?_, fun s hs => ?_, B.once2, fun a b hab => ?_, fun w => ?_, by simp; exact B.len, Nat.le_succ_of_le B.len2⟩
  · show List.Pairwise _ _
    rw [List.pairwise_append]
    refine ⟨B.once, List.pairwise_singleton _ _, fun a ha b hb => ?_⟩
    simp at hb; subst hb; exact no a ha
  · rcases B.sub s hs with h | h
    · exact .inl (List.mem_append.2 (.inl h))
    · exact .inr (List.mem_append.2 (.inl h))
  · have nin : (u, v) ∉ on ∧ (v, u) ∉ on := by
      refine ⟨fun q => ?_, fun q => ?_⟩
      · rcases B.sub _ q with z | z
        · exact (no _ z).1 rfl
        · exact (no _ z).2 rfl
      · rcases B.sub _ q with z | z
        · exact (no _ z).2 rfl
        · exact (no _ z).1 rfl
    by_cases e1 : (a, b) = (v, u)
    · simp only [updM, e1, if_true]
      simp only [Prod.mk.injEq] at e1
      obtain ⟨rfl, rfl⟩ := e1
      exact ⟨fun h => (Bool.noConfusion h), fun h => h.elim (fun z => absurd z nin.2) (fun z => absurd z nin.1)⟩
    · by_cases e2 : (a, b) = (u, v)
      · simp only [updM, e2]
        simp only [Prod.mk.injEq] at e2
        obtain ⟨rfl, rfl⟩ := e2
        simp only [Prod.mk.injEq, huv, false_and, if_false, if_true]
        exact ⟨fun h => (Bool.noConfusion h), fun h => h.elim (fun z => absurd z nin.1) (fun z => absurd z nin.2)⟩
      · simp only [updM, e1, e2, if_false]
        apply B.mark
        simp only [List.mem_append, List.mem_singleton] at hab
        rcases hab with (h | h) | (h | h)
        · exact .inl h
        · exact absurd h e2
        · exact .inr h
        · simp only [Prod.mk.injEq] at h e1; exact absurd ⟨h.2, h.1⟩ e1
  · have : (w, w) ≠ (u, v) ∧ (w, w) ≠ (v, u) := by simp only [ne_eq, Prod.mk.injEq]; omega
    simp only [updM, this.1, this.2, if_false]; exact B.stop w
/-- Without an edge. -/
theorem Books.out {n u v : Nat} {Y Y' : Nat → List (Nat × Nat)} {mk : Nat × Nat → Bool} {l on l' on' : List (Nat × Nat)} {c : Nat} (B : Books n Y mk l on c) (hl : Out l l' u v) (ho : Out on on' u v) (ht : Told n Y' l') : Books n Y' mk l' on' c := by
  refine ⟨ht, hl.once, fun s hs => ?_, ho.once, fun a b hab => ?_, B.stop, Nat.le_trans hl.len B.len, Nat.le_trans ho.len B.len2⟩
  · obtain ⟨h1, h2, h3⟩ := (ho.mem s).1 hs
    rcases B.sub s h1 with h | h
    · exact .inl ((hl.mem s).2 ⟨h, h2, h3⟩)
    · exact .inr ((hl.mem _).2 ⟨h, fun q => by simp only [Prod.mk.injEq] at q; exact h3 (Prod.ext q.2 q.1), fun q => by simp only [Prod.mk.injEq] at q; exact h2 (Prod.ext q.2 q.1)⟩)
  · rw [ho.mem, ho.mem]
    have hno : (a, b) ≠ (u, v) ∧ (a, b) ≠ (v, u) ∧ ((a, b) ∈ l ∨ (b, a) ∈ l) := by
      rcases hab with h | h
      · obtain ⟨h1, h2, h3⟩ := (hl.mem _).1 h
        exact ⟨h2, h3, .inl h1⟩
      · obtain ⟨h1, h2, h3⟩ := (hl.mem _).1 h
        simp only [ne_eq, Prod.mk.injEq] at h2 h3 ⊢
        exact ⟨fun q => h3 ⟨q.2, q.1⟩, fun q => h2 ⟨q.2, q.1⟩, .inr h1⟩
    rw [B.mark a b hno.2.2]
    obtain ⟨q1, q2, _⟩ := hno
    simp only [ne_eq, Prod.mk.injEq] at q1 q2 ⊢
    constructor
    · rintro (h | h)
      · exact .inl ⟨h, q1, q2⟩
      · exact .inr ⟨h, fun z => q2 ⟨z.2, z.1⟩, fun z => q1 ⟨z.2, z.1⟩⟩
    · rintro (h | h)
      · exact .inl h.1
      · exact .inr h.1
/-- An edge is marked or not. -/
theorem Books.mark1 {n u v : Nat} {Y : Nat → List (Nat × Nat)} {mk : Nat × Nat → Bool} {l on on' : List (Nat × Nat)} {c : Nat} (B : Books n Y mk l on c) (ho : Out on on' u v) (hin : (u, v) ∈ l ∨ (v, u) ∈ l) (huv : u ≠ v) (b : Bool) :
    Books n Y (updM (updM mk (v, u) b) (u, v) b) l (if b then on' ++ [(u, v)] else on') (c + 1) := by
  have nin : (u, v) ∉ on' ∧ (v, u) ∉ on' := ⟨fun q => ((ho.mem _).1 q).2.1 rfl, fun q => ((ho.mem _).1 q).2.2 rfl⟩
  have sub' : ∀ s ∈ on', s ∈ l ∨ (s.2, s.1) ∈ l := fun s hs => B.sub s ((ho.mem s).1 hs).1
  have hmem : ∀ s, s ∈ (if b then on' ++ [(u, v)] else on') ↔ s ∈ on' ∨ (b = true ∧ s = (u, v)) := fun s => by cases b <;> simp
  refine ⟨B.told, B.once, fun s hs => ?_, ?_, fun x y hxy => ?_, fun w => ?_, Nat.le_succ_of_le B.len, ?_⟩
  · rcases (hmem s).1 hs with h | ⟨_, rfl⟩
    · exact sub' s h
    · exact hin
  · cases b
    · exact ho.once
    · show List.Pairwise _ (on' ++ [(u, v)])
      rw [List.pairwise_append]
      refine ⟨ho.once, List.pairwise_singleton _ _, fun s hs t ht => ?_⟩
      simp at ht; subst ht
      exact ⟨fun q => nin.1 (q ▸ hs), fun q => nin.2 (q ▸ hs)⟩
  · rw [hmem, hmem]
    by_cases e1 : (x, y) = (u, v)
    · simp only [updM, e1, if_true]
      simp only [Prod.mk.injEq] at e1
      obtain ⟨rfl, rfl⟩ := e1
      constructor
      · exact fun h => .inl (.inr ⟨h, trivial⟩)
      · rintro ((h | h) | (h | h))
        · exact absurd h nin.1
        · exact h.1
        · exact absurd h nin.2
        · exact h.1
    · by_cases e2 : (x, y) = (v, u)
      · simp only [updM, e2]
        simp only [Prod.mk.injEq] at e2
        obtain ⟨rfl, rfl⟩ := e2
        simp only [Prod.mk.injEq, Ne.symm huv, false_and, if_false, if_true]
        constructor
        · exact fun h => .inr (.inr ⟨h, trivial⟩)
        · rintro ((h | h) | (h | h))
          · exact absurd h nin.2
          · exact h.1
          · exact absurd h nin.1
          · exact h.1
      · simp only [updM, e1, e2, if_false]
        rw [B.mark x y hxy, ho.mem, ho.mem]
        simp only [ne_eq, Prod.mk.injEq] at e1 e2 ⊢
        constructor
        · rintro (h | h)
          · exact .inl (.inl ⟨h, e1, e2⟩)
          · exact .inr (.inl ⟨h, fun z => e2 ⟨z.2, z.1⟩, fun z => e1 ⟨z.2, z.1⟩⟩)
        · rintro ((h | h) | (h | h))
          · exact .inl h.1
          · exact h.2.elim
          · exact .inr h.1
          · exact absurd ⟨h.2.2, h.2.1⟩ e2
  · have : (w, w) ≠ (u, v) ∧ (w, w) ≠ (v, u) := by simp only [ne_eq, Prod.mk.injEq]; omega
    simp only [updM, this.1, this.2, if_false]; exact B.stop w
  · have := Nat.le_trans ho.len B.len2
    cases b <;> simp <;> omega
/-- Both ways of an edge in a tour. -/
theorem Eu.both {n ms : Nat} {Y : Nat → List (Nat × Nat)} (E : Eu n ms Y) {u v : Nat} (hu : u < n) (huv : u ≠ v) (h : (u, v) ∈ Y u) : ∃ a b A M B, ((a = u ∧ b = v) ∨ (a = v ∧ b = u)) ∧ Y u = A ++ (a, b) :: (M ++ (b, a) :: B) := by
  have h2 := E.back u hu _ h
  obtain ⟨A, R, e⟩ := List.append_of_mem h
  rw [e] at h2
  rcases List.mem_append.1 h2 with q | q
  · obtain ⟨A1, A2, rfl⟩ := List.append_of_mem q
    exact ⟨v, u, A1, A2, R, .inr ⟨rfl, rfl⟩, by rw [e]; simp⟩
  · rcases List.mem_cons.1 q with q | q
    · simp only [Prod.mk.injEq] at q; omega
    · obtain ⟨M, B, rfl⟩ := List.append_of_mem q
      exact ⟨u, v, A, M, B, .inl ⟨rfl, rfl⟩, e⟩
/-- Cut. -/
theorem Books.cut {n ms u v a b : Nat} {Y : Nat → List (Nat × Nat)} {mk : Nat × Nat → Bool} {l on l' on' : List (Nat × Nat)} {c : Nat} {A M B' : List (Nat × Nat)} (E : Eu n ms Y) (B : Books n Y mk l on c) (hu : u < n) (hv : v < n) (huv : u ≠ v) (hw : (a = u ∧ b = v) ∨ (a = v ∧ b = u)) (e : Y u = A ++ (a, b) :: (M ++ (b, a) :: B')) (hl : Out l l' u v) (ho : Out on on' u v) :
    Books n (setY (setY Y M) (A ++ B')) mk l' on' c := by
  refine B.out hl ho ?_
  rcases hw with ⟨rfl, rfl⟩ | ⟨rfl, rfl⟩
  · exact B.told.cut E hu huv e hl.mem
  · have hs : (a, b) ∈ Y b := by rw [e]; simp
    have ea : Y a = Y b := (E.one b hu _ hs).2.2.1
    exact B.told.cut E hv huv.symm (by rw [ea]; exact e) (fun s => by rw [hl.mem]; exact ⟨fun h => ⟨h.1, h.2.2, h.2.1⟩, fun h => ⟨h.1, h.2.2, h.2.1⟩⟩)
/-- An edge of the books. -/
theorem Books.has {n : Nat} {Y : Nat → List (Nat × Nat)} {mk : Nat × Nat → Bool} {l on : List (Nat × Nat)} {c u v : Nat} (B : Books n Y mk l on c) (hu : u < n) (hv : v < n) : (u ≠ v ∧ (u, v) ∈ Y u) ↔ ((u, v) ∈ l ∨ (v, u) ∈ l) := by
  constructor
  · rintro ⟨h1, h2⟩; exact (B.told.has u v hu hv h1).1 h2
  · intro h
    have huv : u ≠ v := by
      rcases h with h | h
      · exact (B.told.lt _ h).2.2
      · exact (B.told.lt _ h).2.2.symm
    exact ⟨huv, (B.told.has u v hu hv huv).2 h⟩
/-- Whether a marked edge is in a tree. -/
theorem Books.any {n ms v : Nat} {Y : Nat → List (Nat × Nat)} {mk : Nat × Nat → Bool} {l on : List (Nat × Nat)} {c : Nat} (E : Eu n ms Y) (B : Books n Y mk l on c) (hv : v < n) :
    (∃ s ∈ on, Y s.1 = Y v) ↔ ∃ s ∈ Y v, s.1 ≠ s.2 ∧ mk s = true := by
  constructor
  · rintro ⟨s, hs, e⟩
    have hin := B.sub s hs
    have hlt : s.1 < n ∧ s.2 < n ∧ s.1 ≠ s.2 := by
      rcases hin with h | h
      · exact B.told.lt _ h
      · have := B.told.lt _ h; exact ⟨this.2.1, this.1, this.2.2.symm⟩
    refine ⟨s, ?_, hlt.2.2, (B.mark s.1 s.2 hin).2 (.inl hs)⟩
    rw [← e]; exact (B.told.has s.1 s.2 hlt.1 hlt.2.1 hlt.2.2).2 hin
  · rintro ⟨s, hs, hne, hm⟩
    obtain ⟨h1, h2, h3, h4⟩ := E.one v hv s hs
    have hin := (B.told.has s.1 s.2 h1 h2 hne).1 (by rw [h3]; exact hs)
    rcases (B.mark s.1 s.2 hin).1 hm with q | q
    · exact ⟨_, q, h3⟩
    · exact ⟨_, q, h4⟩
/-- The first one with a property. -/
theorem first_of {X : List (Nat × Nat)} {p : Nat × Nat → Bool} (h : ∃ s ∈ X, p s = true) : ∃ A s B, X = A ++ s :: B ∧ (∀ t ∈ A, p t = false) ∧ p s = true := by
  induction X with
  | nil => simp at h
  | cons x X ih =>
    by_cases e : p x = true
    · exact ⟨[], x, X, rfl, by simp, e⟩
    · obtain ⟨s, hs, hp⟩ := h
      rcases List.mem_cons.1 hs with rfl | hs
      · exact absurd hp e
      · obtain ⟨A, s, B, h1, h2, h3⟩ := ih ⟨s, hs, hp⟩
        refine ⟨x :: A, s, B, by rw [h1]; rfl, fun t ht => ?_, h3⟩
        rcases List.mem_cons.1 ht with rfl | ht
        · simpa using e
        · exact h2 t ht
/-- What flags come to. -/
theorem agg_flags2 {X : List (Nat × Nat)} {val : Nat → Int} {mk : Nat × Nat → Bool} (hst : ∀ v, mk (v, v) = false) : (agg (X.map (Dm val mk))).flags = if (∃ s ∈ X, s.1 ≠ s.2 ∧ mk s = true) then 2 else 0 := by
  induction X with
  | nil => simp [agg, Ag.zero]
  | cons x X ih =>
    simp only [List.map_cons, agg, both_flags]
    rw [ih]
    have hx : (Dm val mk x).one.flags = if x.1 ≠ x.2 ∧ mk x = true then 2 else 0 := by
      obtain ⟨a, b⟩ := x
      simp only [Dm, It.one]
      by_cases e : a = b
      · subst e; simp [hst]
      · by_cases m : mk (a, b) = true <;> simp [e, m]
    rw [hx]
    by_cases c1 : x.1 ≠ x.2 ∧ mk x = true
    · rw [if_pos c1, if_pos (show ∃ s ∈ x :: X, s.1 ≠ s.2 ∧ mk s = true from ⟨x, by simp, c1⟩)]
      split <;> rfl
    · rw [if_neg c1]
      by_cases c2 : ∃ s ∈ X, s.1 ≠ s.2 ∧ mk s = true
      · rw [if_pos c2, if_pos]
        · rfl
        · obtain ⟨s, hs, h⟩ := c2; exact ⟨s, List.mem_cons_of_mem _ hs, h⟩
      · rw [if_neg c2, if_neg]
        · rfl
        · rintro ⟨s, hs, h⟩
          rcases List.mem_cons.1 hs with rfl | hs
          · exact c1 h
          · exact c2 ⟨s, hs, h⟩

end Go.Proofs.Ytnpfagpgploolaa
