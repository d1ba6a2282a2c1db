/- All weights greater by as much, or so many times: no program. -/
import Derived.Test.YtffmlffhiimmdaaFill7
namespace Go.Proofs.Ytffmlffhiimmdaa
set_option linter.unusedVariables false

/-- The same edges, their weights turned. -/
structure Sh (D E : Nat → Option Ed) (ti mo : Int) : Prop where
  pos : 1 ≤ ti
  thr : ∀ i x, D i = some x → E i = some ⟨x.u, x.v, x.w * ti + mo⟩
  bck : ∀ i y, E i = some y → ∃ x, D i = some x
section
variable {D E ed ed' : Nat → Option Ed} {ti mo : Int}
theorem Sh.lgt (h : Sh D E ti mo) {k i : Nat} : Proofs.Ytffmlffhiimmdaa.lgt D k i ↔ Proofs.Ytffmlffhiimmdaa.lgt E k i := by
  have hp := h.pos
  have lt : ∀ a b : Int, a < b → a * ti + mo < b * ti + mo := fun a b q => by
    have := Int.mul_lt_mul_of_pos_right q (show 0 < ti by omega)
    omega
  constructor
  · rintro ⟨x, y, a, b, c⟩
    refine ⟨_, _, h.thr _ _ a, h.thr _ _ b, ?_⟩
    rcases c with c | ⟨c, d⟩
    · exact .inl (lt _ _ c)
    · exact .inr ⟨by rw [c], d⟩
  · rintro ⟨x, y, a, b, c⟩
    obtain ⟨x', hx⟩ := h.bck _ _ a
    obtain ⟨y', hy⟩ := h.bck _ _ b
    rw [h.thr _ _ hx] at a
    rw [h.thr _ _ hy] at b
    injection a with a
    injection b with b
    subst a
    subst b
    refine ⟨x', y', hx, hy, ?_⟩
    simp only at c
    rcases Int.lt_trichotomy x'.w y'.w with q | q | q
    · exact .inl q
    · exact .inr ⟨q, by rcases c with c | c; (rw [q] at c; omega); exact c.2⟩
    · have := lt _ _ q; omega
theorem Sh.cn (h : Sh D E ti mo) {P Q : Nat → Prop} (hPQ : ∀ i, P i ↔ Q i) {a b : Nat} : Cn P D a b ↔ Cn Q E a b := by
  constructor
  · intro c
    exact c.sub fun i x hx hP => Cn.edge (x := ⟨x.u, x.v, x.w * ti + mo⟩) (h.thr i x hx) ((hPQ i).1 hP)
  · intro c
    refine c.sub fun i y hy hQ => ?_
    obtain ⟨x, hx⟩ := h.bck i y hy
    have := h.thr i x hx
    rw [hy] at this
    injection this with this
    subst this
    show Cn P D x.u x.v
    exact Cn.edge hx ((hPQ i).2 hQ)
theorem Sh.bn (h : Sh D E ti mo) {u v t : Nat} : IsBn D u v t ↔ IsBn E u v t :=
  and_congr (h.cn fun i => or_congr Iff.rfl h.lgt) (not_congr (h.cn fun i => h.lgt))
/-- The forest has the same edges. -/
theorem Sh.forest (h : Sh D E ti mo) (m : Mf D ed) (m' : Mf E ed') (acy : ∀ i x, ed i = some x → ¬ Cn (fun k => k ≠ i) ed x.u x.v) (acy' : ∀ i x, ed' i = some x → ¬ Cn (fun k => k ≠ i) ed' x.u x.v) : Sh ed ed' ti mo := by
  refine ⟨h.pos, fun i x hx => ?_, fun i y hy => ?_⟩
  · have hD := m.sub i x hx
    have hE := h.thr i x hD
    refine (m'.canon acy' hE).2 fun c => ?_
    exact (m.canon acy hD).1 hx ((h.cn fun k => h.lgt).2 c)
  · have hE := m'.sub i y hy
    obtain ⟨x, hD⟩ := h.bck i y hE
    refine ⟨x, (m.canon acy hD).2 fun c => ?_⟩
    have := h.thr i x hD
    rw [hE] at this
    injection this with this
    subst this
    exact (m'.canon acy' hE).1 hy ((h.cn fun k => h.lgt).1 c)
theorem Sh.ids (h : Sh ed ed' ti mo) {l : List Nat} (hl : Ids ed l) : Ids ed' l := by
  refine ⟨hl.1, fun i => (hl.2 i).trans ⟨fun e => ?_, fun e => ?_⟩⟩
  · obtain ⟨x, hx⟩ := Option.isSome_iff_exists.1 e
    rw [h.thr i x hx]; rfl
  · obtain ⟨y, hy⟩ := Option.isSome_iff_exists.1 e
    obtain ⟨x, hx⟩ := h.bck i y hy
    rw [hx]; rfl
theorem Sh.sum (h : Sh ed ed' ti mo) : ∀ l : List Nat, (∀ i ∈ l, (ed i).isSome = true) → (l.map (wOf ed')).sum = (l.map (wOf ed)).sum * ti + mo * (l.length : Int)
  | [], _ => by simp
  | a :: l, hl => by
    obtain ⟨x, hx⟩ := Option.isSome_iff_exists.1 (hl a (by simp))
    rw [List.map_cons, List.sum_cons, List.map_cons, List.sum_cons, Sh.sum h l (fun i hi => hl i (by simp [hi])), wOf_some hx, wOf_some (h.thr a x hx), List.length_cons, Int.add_mul]
    have : mo * ((l.length + 1 : Nat) : Int) = mo * (l.length : Int) + mo := by
      rw [Int.natCast_add, Int.mul_add]; simp
    rw [this]
    simp only
    omega
end
theorem fD_sh (f : Nat → EdT) (n : Nat) (ti mo : Int) (k : Nat) (h : 1 ≤ ti) : Sh (fD f n 1 0 k) (fD f n ti mo k) ti mo := by
  refine ⟨h, fun i x hx => ?_, fun i y hy => ?_⟩
  · unfold fD at hx ⊢
    by_cases q : i < k ∧ pkN (f i).u n ≠ pkN (f i).v n
    · rw [if_pos q] at hx ⊢
      injection hx with hx
      subst hx
      unfold fEd
      simp
    · rw [if_neg q] at hx; simp at hx
  · unfold fD at hy ⊢
    by_cases q : i < k ∧ pkN (f i).u n ≠ pkN (f i).v n
    · rw [if_pos q]; exact ⟨_, rfl⟩
    · rw [if_neg q] at hy; simp at hy

end Go.Proofs.Ytffmlffhiimmdaa
