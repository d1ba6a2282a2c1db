/- Two are of one block just if there is a way between them whichever edge is left out. No program. -/
import Derived.Test.YtanahbkkgppfnaaGra
import Derived.Test.YtanahbkkgppfnaaParts8
import Derived.Test.YtanahbkkgppfnaaAwk
namespace Go.Proofs.Ytanahbkkgppfnaa
open Go.ChangeShapes Go.WideShapes Go.ChangeAt Go.RowKit
set_option linter.unusedVariables false

theorem Ans.same {n : Nat} {es : List EdT} {B : List Nat} {bl : Nat → Nat} (h : Ans n es B bl) {u v : Nat} (hu : u < n) (hv : v < n) : bl u = bl v ↔ Jn (ends es) (Firm (ends es)) u v := by
  constructor
  · intro q
    have h1 := (h.2.2.1 u hu).2
    have h2 := (h.2.2.1 v hv).2
    rw [← q] at h2
    exact h1.symm.trans h2
  · exact h.2.2.2 u v hu hv
/-- What 'hold' says when k edges were left out in turn. -/
def HoldIs (es : List EdT) (u v k : Nat) (b : Bool) : Prop := b = true ↔ Cj (ends es) u v ∧ ∀ j, j < k → Jn (ends es) (fun i => i ≠ j) u v
theorem HoldIs.done {n : Nat} {es : List EdT} {B : List Nat} {bl : Nat → Nat} (h : Ans n es B bl) {u v : Nat} (hu : u < n) (hv : v < n) {b : Bool} (hb : HoldIs es u v es.length b) : decide (bl u = bl v) = b := by
  have := h.same hu hv
  rw [firm_all, ← cj_all, ends_len] at this
  cases b with
  | true => rw [decide_eq_true_iff]; exact this.2 (hb.1 rfl)
  | false =>
    rw [decide_eq_false_iff_not]
    intro q
    exact absurd (hb.2 (this.1 q)) (by decide)
theorem HoldIs.step {es : List EdT} {u v k : Nat} {b c : Bool} (h : HoldIs es u v k b) (hc : c = true ↔ Jn (ends es) (fun i => i ≠ k) u v) : HoldIs es u v (k + 1) (b && c) := by
  unfold HoldIs at h ⊢
  rw [Bool.and_eq_true, h, hc]
  constructor
  · rintro ⟨⟨h1, h2⟩, h3⟩
    refine ⟨h1, fun j hj => ?_⟩
    by_cases q : j = k
    · subst q; exact h3
    · exact h2 j (by omega)
  · rintro ⟨h1, h2⟩
    exact ⟨⟨h1, fun j hj => h2 j (by omega)⟩, h2 k (by omega)⟩
theorem ends_rest (es : List EdT) (k : Nat) : ends (es.take k ++ es.drop (k + 1)) = (ends es).take k ++ (ends es).drop (k + 1) := by simp [ends, List.map_take, List.map_drop]
theorem GrE.rest {n k j : Nat} {es : List EdT} (h : GrE n k es) : ∀ x, x ∈ es.take j ++ es.drop (j + 1) → (0 ≤ x.u ∧ x.u < n) ∧ (0 ≤ x.v ∧ x.v < n) := fun x hx => by
  rcases List.mem_append.1 hx with q | q
  · have := h.1 x (List.mem_of_mem_take q); exact ⟨this.1, this.2.1⟩
  · have := h.1 x (List.mem_of_mem_drop q); exact ⟨this.1, this.2.1⟩
theorem ends_lt {n : Nat} {es : List EdT} (h : ∀ x, x ∈ es → (0 ≤ x.u ∧ x.u < n) ∧ (0 ≤ x.v ∧ x.v < n)) : ∀ s, s ∈ ends es → s.1 < n ∧ s.2 < n := fun s hs => by
  obtain ⟨x, hx, rfl⟩ := List.mem_map.1 hs
  obtain ⟨⟨a, b⟩, c, d⟩ := h x hx
  exact ⟨show x.u.toNat < n by omega, show x.v.toNat < n by omega⟩
end Go.Proofs.Ytanahbkkgppfnaa
