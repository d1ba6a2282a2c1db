/- What the document's own oracle of bridges knows from edge to edge. No program. -/
import Derived.Test.YtanahbkkgppfnaaHoldsM
import Derived.Test.YtanahbkkgppfnaaOrderM
namespace Go.Proofs.Ytanahbkkgppfnaa
open Go.ChangeShapes Go.WideShapes Go.ChangeAt Go.RowKit
set_option linter.unusedVariables false

/-- Of one edge: may it be, behind those ahead? -/
def OkAt (n : Nat) (es : List EdT) (k : Nat) : Prop := ∀ hk : k < es.length, RightE n es[k] ∧ ∀ x, x ∈ es.take k → x.id ≠ es[k].id
theorem okE_at {n : Nat} {es : List EdT} (h : ∀ j, j < es.length → OkAt n es j) : OkE n es := fun k hk => h k hk hk
/-- The firm edges among the first k. -/
def FmL (es : List EdT) (k : Nat) (fs : List EdT) : Prop := fs.length ≤ k ∧ (∀ x, x ∈ fs → ∃ j, ∃ h : j < es.length, es[j] = x ∧ Firm (ends es) j) ∧ (∀ j, j < k → ∀ h : j < es.length, Firm (ends es) j → es[j] ∈ fs)
/-- The bridges' IDs among the first k. -/
def BrL (es : List EdT) (k : Nat) (il : List Nat) : Prop := il.length ≤ k ∧ il.Pairwise (· < ·) ∧ ∀ i, i ∈ il ↔ ∃ j, j < k ∧ j < es.length ∧ idn es j = i ∧ ¬ Firm (ends es) j
theorem FmL.start (es : List EdT) : FmL es 0 [] := ⟨Nat.le_refl _, fun x hx => by simp at hx, fun j hj => by omega⟩
theorem BrL.start (es : List EdT) : BrL es 0 [] := ⟨Nat.le_refl _, by simp, fun i => by simp⟩
theorem FmL.snoc {es : List EdT} {k : Nat} {fs : List EdT} (h : FmL es k fs) (hk : k < es.length) (hf : Firm (ends es) k) : FmL es (k + 1) (fs ++ [es[k]]) := by
  obtain ⟨h1, h2, h3⟩ := h
  refine ⟨by simp; omega, fun x hx => ?_, fun j hj hl hj2 => ?_⟩
  · rcases List.mem_append.1 hx with q | q
    · exact h2 x q
    · exact ⟨k, hk, (List.mem_singleton.1 q).symm, hf⟩
  · by_cases e : j = k
    · subst e; simp
    · exact List.mem_append_left _ (h3 j (by omega) hl hj2)
theorem FmL.same {es : List EdT} {k : Nat} {fs : List EdT} (h : FmL es k fs) (hf : ¬ Firm (ends es) k) : FmL es (k + 1) fs := by
  obtain ⟨h1, h2, h3⟩ := h
  refine ⟨by omega, h2, fun j hj hl hj2 => ?_⟩
  by_cases e : j = k
  · subst e; exact absurd hj2 hf
  · exact h3 j (by omega) hl hj2
theorem BrL.same {es : List EdT} {k : Nat} {il : List Nat} (h : BrL es k il) (hf : Firm (ends es) k) : BrL es (k + 1) il := by
  obtain ⟨h1, h2, h3⟩ := h
  refine ⟨by omega, h2, fun i => (h3 i).trans ⟨?_, ?_⟩⟩
  · rintro ⟨j, a, b⟩; exact ⟨j, by omega, b⟩
  · rintro ⟨j, a, b, c, d⟩
    by_cases e : j = k
    · subst e; exact absurd hf d
    · exact ⟨j, by omega, b, c, d⟩
theorem idn_inj {n : Nat} {es : List EdT} (ok : OkE n es) {i j : Nat} (hi : i < es.length) (hj : j < es.length) (h : idn es i = idn es j) : i = j := by
  have e1 : idn es i = es[i].id.toNat := by simp [idn, hi]
  have e2 : idn es j = es[j].id.toNat := by simp [idn, hj]
  have a1 := (ok i hi).1.2.2.2.1.1
  have a2 := (ok j hj).1.2.2.2.1.1
  exact ok.inj hi hj (by omega)
/-- One ID more, at its place. -/
theorem BrL.put {n : Nat} {es : List EdT} {k : Nat} {il : List Nat} (ok : OkE n es) (h : BrL es k il) (hk : k < es.length) (hf : ¬ Firm (ends es) k) {a : Nat} (ha : a ≤ il.length) (hlo : ∀ j (hj : j < il.length), j < a → il[j] < idn es k) (hhi : ∀ hj : a < il.length, idn es k ≤ il[a]) :
    BrL es (k + 1) (il.take a ++ idn es k :: il.drop a) := by
  obtain ⟨h1, h2, h3⟩ := h
  have hno : idn es k ∉ il := fun q => by
    obtain ⟨j, b, c, d, _⟩ := (h3 _).1 q
    have := idn_inj ok c hk d
    omega
  have hp := List.pairwise_iff_getElem.1 h2
  have hmemT : ∀ x, x ∈ il.take a → x < idn es k := fun x hx => by
    obtain ⟨j, hj, rfl⟩ := List.mem_take_iff_getElem.1 hx
    exact hlo j (by omega) (by omega)
  have hmemD : ∀ x, x ∈ il.drop a → idn es k < x := fun x hx => by
    obtain ⟨j, hj, rfl⟩ := List.mem_drop_iff_getElem.1 hx
    have hal : a < il.length := by omega
    have h0 := hhi hal
    have h4 : il[a] ≤ il[j + a]'(by omega) := by
      by_cases e : j = 0
      · subst e; simp
      · exact Nat.le_of_lt (hp a (j + a) hal (by omega) (by omega))
    have h5 : il[j + a]'(by omega) ≠ idn es k := fun q => hno (q ▸ List.getElem_mem _)
    simp only [Nat.add_comm a j]
    omega
  refine ⟨by simp; omega, ?_, fun i => ?_⟩
  · rw [List.pairwise_append]
    refine ⟨h2.sublist (List.take_sublist _ _), ?_, fun x hx y hy => ?_⟩
    · rw [List.pairwise_cons]
      exact ⟨hmemD, h2.sublist (List.drop_sublist _ _)⟩
    · have := hmemT x hx
      rcases List.mem_cons.1 hy with e | e
      · rw [e]; exact this
      · have := hmemD y e; omega
  · have e : i ∈ il.take a ++ idn es k :: il.drop a ↔ i = idn es k ∨ i ∈ il := by
      conv => rhs; rw [← List.take_append_drop a il]
      simp only [List.mem_append, List.mem_cons]
      constructor
      · rintro (q | q | q)
        · exact .inr (.inl q)
        · exact .inl q
        · exact .inr (.inr q)
      · rintro (q | q | q)
        · exact .inr (.inl q)
        · exact .inl q
        · exact .inr (.inr q)
    rw [e, h3]
    constructor
    · rintro (q | ⟨j, b, c, d, f⟩)
      · exact ⟨k, by omega, hk, q.symm, hf⟩
      · exact ⟨j, by omega, c, d, f⟩
    · rintro ⟨j, b, c, d, f⟩
      by_cases e : j = k
      · subst e; exact .inl d.symm
      · exact .inr ⟨j, by omega, c, d, f⟩
theorem ends_at {es : List EdT} {k : Nat} (hk : k < es.length) : (ends es)[k]? = some (es[k].u.toNat, es[k].v.toNat) := by simp [ends, hk]
theorem firm_at {es : List EdT} {k : Nat} (hk : k < es.length) : Firm (ends es) k ↔ Jn (ends es) (fun i => i ≠ k) es[k].u.toNat es[k].v.toNat :=
  ⟨fun h => h.at (.inl (ends_at hk)), fun h => ⟨_, _, .inl (ends_at hk), h⟩⟩
/-- Joined by the firm edges' list. -/
theorem fm_jn {es fs : List EdT} (h : FmL es es.length fs) {x y : Nat} : Cj (ends fs) x y ↔ Jn (ends es) (Firm (ends es)) x y := by
  obtain ⟨h1, h2, h3⟩ := h
  rw [cj_all]
  constructor
  · intro j
    refine j.sub fun i p hp _ => ?_
    have hi : i < fs.length := by have := (List.getElem?_eq_some_iff.1 hp).1; rw [ends_len] at this; exact this
    obtain ⟨q, hq, he, hf⟩ := h2 _ (List.getElem_mem hi)
    rw [ends_at hi] at hp
    injection hp with hp
    subst hp
    rw [← he]
    exact Inc.jn (.inl (ends_at hq)) hf
  · intro j
    refine j.sub fun i p hp hP => ?_
    have hi : i < es.length := by have := (List.getElem?_eq_some_iff.1 hp).1; rw [ends_len] at this; exact this
    obtain ⟨q, hq, he⟩ := List.getElem_of_mem (h3 i hi hi hP)
    rw [ends_at hi] at hp
    injection hp with hp
    subst hp
    rw [← he]
    exact Inc.jn (.inl (ends_at hq)) trivial
theorem ref_ans {n : Nat} {es fs : List EdT} {il : List Nat} {b : Nat → Nat} (hF : FmL es es.length fs) (hB : BrL es es.length il) (h1 : ∀ x y, x < n → y < n → (b x = b y ↔ Cj (ends fs) x y)) (h2 : ∀ v, v < n → b v ≤ v ∧ Cj (ends fs) v (b v)) : Ans n es il b := by
  refine ⟨hB.2.1, fun i => (hB.2.2 i).trans ⟨?_, ?_⟩, fun x hx => ⟨(h2 x hx).1, ((fm_jn hF).1 (h2 x hx).2).symm⟩, fun x y hx hy j => (h1 x y hx hy).2 ((fm_jn hF).2 j)⟩
  · rintro ⟨j, _, b, c⟩; exact ⟨j, b, c⟩
  · rintro ⟨j, b, c⟩; exact ⟨j, b, b, c⟩
theorem Ans.uniq {n : Nat} {es : List EdT} {B B' : List Nat} {bl bl' : Nat → Nat} (A : Ans n es B bl) (A' : Ans n es B' bl') : B = B' ∧ (∀ x, x < n → bl x = bl' x) ∧ cntB bl n = cntB bl' n := by
  have hb : ∀ x, x < n → bl x = bl' x := fun x hx => by
    obtain ⟨a1, a2⟩ := A.2.2.1 x hx
    obtain ⟨b1, b2⟩ := A'.2.2.1 x hx
    have a3 := A'.2.2.2 (bl x) x (by omega) hx a2
    have b3 := A.2.2.2 (bl' x) x (by omega) hx b2
    have a4 := (A'.2.2.1 (bl x) (by omega)).1
    have b4 := (A.2.2.1 (bl' x) (by omega)).1
    omega
  refine ⟨inc_ext B B' A.1 A'.1 fun i => (A.2.1 i).trans (A'.2.1 i).symm, hb, sumN_same n fun v hv => by rw [hb v hv]⟩
end Go.Proofs.Ytanahbkkgppfnaa
