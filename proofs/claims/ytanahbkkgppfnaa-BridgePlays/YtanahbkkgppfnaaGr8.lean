/- A graph as a list of ends: joined by edges of a kind; edges without which their ends stay joined. No program. -/
import Derived.Test.YtanahbkkgppfnaaMem
namespace Go.Proofs.Ytanahbkkgppfnaa
set_option linter.unusedVariables false

/-- Joined by the edges of kind P: whatever set has a and no such edge leaves has b. -/
def Jn (l : List (Nat × Nat)) (P : Nat → Prop) (a b : Nat) : Prop := ∀ B : Nat → Prop, B a → (∀ i x, l[i]? = some x → P i → (B x.1 ↔ B x.2)) → B b
/-- Edge e joins x and y. -/
def Inc (l : List (Nat × Nat)) (e x y : Nat) : Prop := l[e]? = some (x, y) ∨ l[e]? = some (y, x)
section
variable {l : List (Nat × Nat)} {P Q : Nat → Prop} {a b c e x y : Nat}
theorem Jn.refl : Jn l P a a := fun B h _ => h
theorem Jn.trans (h : Jn l P a b) (k : Jn l P b c) : Jn l P a c := fun B ha hB => k B (h B ha hB) hB
theorem Inc.symm (h : Inc l e x y) : Inc l e y x := h.elim .inr .inl
theorem Inc.jn (h : Inc l e x y) (hP : P e) : Jn l P x y := fun B hx hB => by
  rcases h with h | h
  · exact (hB e _ h hP).1 hx
  · exact (hB e _ h hP).2 hx
theorem Jn.symm (h : Jn l P a b) : Jn l P b a :=
  h (fun z => Jn l P z a) Jn.refl fun i x hx hP => ⟨fun k => (Inc.jn (.inr hx) hP).trans k, fun k => (Inc.jn (.inl hx) hP).trans k⟩
theorem Jn.sub {l' : List (Nat × Nat)} (h : Jn l P a b) (s : ∀ i x, l[i]? = some x → P i → Jn l' Q x.1 x.2) : Jn l' Q a b :=
  h (fun z => Jn l' Q a z) Jn.refl fun i x hx hP => ⟨fun k => k.trans (s i x hx hP), fun k => k.trans (s i x hx hP).symm⟩
theorem Jn.mono (h : Jn l P a b) (s : ∀ i, P i → Q i) : Jn l Q a b := h.sub fun i x hx hP => Inc.jn (.inl hx) (s i hP)
theorem Inc.lt (h : Inc l e x y) : e < l.length := by
  rcases h with h | h <;> exact (List.getElem?_eq_some_iff.1 h).1
theorem Inc.ends (h : Inc l e x y) {u v : Nat} (k : Inc l e u v) : (u = x ∧ v = y) ∨ (u = y ∧ v = x) := by
  rcases h with h | h <;> rcases k with k | k <;> rw [h] at k <;> simp only [Option.some.injEq, Prod.mk.injEq] at k <;> omega
end
/-- The ends of edge e stay joined without it. -/
def Firm (l : List (Nat × Nat)) (e : Nat) : Prop := ∃ x y, Inc l e x y ∧ Jn l (fun i => i ≠ e) x y
theorem Firm.at {l : List (Nat × Nat)} {e x y : Nat} (h : Firm l e) (k : Inc l e x y) : Jn l (fun i => i ≠ e) x y := by
  obtain ⟨u, v, hi, hj⟩ := h
  rcases hi.ends k with ⟨rfl, rfl⟩ | ⟨rfl, rfl⟩
  · exact hj
  · exact hj.symm
/-- Joined whichever edge goes: joined by firm edges alone. -/
theorem firm_all {l : List (Nat × Nat)} {a b : Nat} : Jn l (Firm l) a b ↔ Jn l (fun _ => True) a b ∧ ∀ e, e < l.length → Jn l (fun i => i ≠ e) a b := by
  constructor
  · intro h
    refine ⟨h.mono fun _ _ => trivial, fun e he => h.sub fun i x hx hF => ?_⟩
    by_cases q : i = e
    · subst q; exact hF.at (.inl hx)
    · exact Inc.jn (.inl hx) q
  · rintro ⟨h0, h⟩
    have go : ∀ m, m ≤ l.length → Jn l (fun i => i < m → Firm l i) a b := fun m => by
      induction m with
      | zero => exact fun _ => h0.mono fun i _ hi => absurd hi (by omega)
      | succ m ih =>
        intro hm
        have h1 := ih (by omega)
        by_cases f : Firm l m
        · exact h1.mono fun i hi hlt => if q : i = m then q ▸ f else hi (by omega)
        · obtain ⟨x, hx⟩ : ∃ x, l[m]? = some x := ⟨l[m], List.getElem?_eq_getElem (by omega)⟩
          have down : ∀ {c d}, Jn l (fun i => i < m + 1 → Firm l i) c d → Jn l (fun i => i ≠ m) c d := fun k => k.mono fun i hi q => by subst q; exact f (hi (by omega))
          have key : Jn l (fun i => i < m + 1 → Firm l i) a b ∨ (Jn l (fun i => i < m + 1 → Firm l i) a x.1 ∧ Jn l (fun i => i < m + 1 → Firm l i) x.2 b) ∨ (Jn l (fun i => i < m + 1 → Firm l i) a x.2 ∧ Jn l (fun i => i < m + 1 → Firm l i) x.1 b) := by
            refine h1 (fun z => Jn l (fun i => i < m + 1 → Firm l i) a z ∨ (Jn l (fun i => i < m + 1 → Firm l i) a x.1 ∧ Jn l (fun i => i < m + 1 → Firm l i) x.2 z) ∨ (Jn l (fun i => i < m + 1 → Firm l i) a x.2 ∧ Jn l (fun i => i < m + 1 → Firm l i) x.1 z)) (.inl Jn.refl) fun i y hy hP => ?_
            by_cases q : i = m
            · subst q
              rw [hx] at hy
              injection hy with hy
              subst hy
              constructor
              · rintro (k | ⟨k1, k2⟩ | ⟨k1, k2⟩)
                · exact .inr (.inl ⟨k, Jn.refl⟩)
                · exact .inr (.inl ⟨k1, Jn.refl⟩)
                · exact .inl k1
              · rintro (k | ⟨k1, k2⟩ | ⟨k1, k2⟩)
                · exact .inr (.inr ⟨k, Jn.refl⟩)
                · exact .inl k1
                · exact .inr (.inr ⟨k1, Jn.refl⟩)
            · have s : Jn l (fun i => i < m + 1 → Firm l i) y.1 y.2 := Inc.jn (.inl hy) (fun hi => hP (by omega))
              constructor
              · rintro (k | ⟨k1, k2⟩ | ⟨k1, k2⟩)
                · exact .inl (k.trans s)
                · exact .inr (.inl ⟨k1, k2.trans s⟩)
                · exact .inr (.inr ⟨k1, k2.trans s⟩)
              · rintro (k | ⟨k1, k2⟩ | ⟨k1, k2⟩)
                · exact .inl (k.trans s.symm)
                · exact .inr (.inl ⟨k1, k2.trans s.symm⟩)
                · exact .inr (.inr ⟨k1, k2.trans s.symm⟩)
          rcases key with k | ⟨k1, k2⟩ | ⟨k1, k2⟩
          · exact k
          · exact absurd ⟨x.1, x.2, .inl hx, (down k1).symm.trans ((h m (by omega)).trans (down k2).symm)⟩ f
          · exact absurd ⟨x.1, x.2, .inl hx, (down k2).trans ((h m (by omega)).symm.trans (down k1))⟩ f
    exact (go l.length (Nat.le_refl _)).sub fun i x hx hP => Inc.jn (.inl hx) (hP (List.getElem?_eq_some_iff.1 hx).1)
end Go.Proofs.Ytanahbkkgppfnaa
