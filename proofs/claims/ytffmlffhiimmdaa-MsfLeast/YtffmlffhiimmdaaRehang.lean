/- A path is hung below another node; a new node. No program. -/
import Derived.Test.YtffmlffhiimmdaaEdges
namespace Go.Proofs.Ytffmlffhiimmdaa
open Go.ChangeShapes Go.WideShapes Go.ChangeAt Go.RowKit
set_option linter.unusedVariables false
variable {live : Nat → Prop} {nd : Nat → Ln} {T S R : Nat → List Nat} {P hv : Nat → Nat} {E : Nat → Ed} {c x e : Nat}

def hungN (nd : Nat → Ln) (c x : Nat) : Nat → Ln := upd nd c { nd c with up := x }
def hungP (S : Nat → List Nat) (P : Nat → Nat) (c x : Nat) : Nat → Nat := fun k => if k ∈ S c then x else P k
def hungR (R : Nat → List Nat) (c x : Nat) : Nat → List Nat := fun k => if (R k).head? = (R c).head? then R x ++ R k else R k
theorem hungN_lr (nd : Nat → Ln) (c x k : Nat) : (hungN nd c x k).l = (nd k).l ∧ (hungN nd c x k).r = (nd k).r ∧ (hungN nd c x k).tw = (nd k).tw := by
  unfold hungN upd; split
  · rename_i e; rw [e]; exact ⟨rfl, rfl, rfl⟩
  · exact ⟨rfl, rfl, rfl⟩
theorem hungN_up (nd : Nat → Ln) (c x : Nat) {k : Nat} (e : k ≠ c) : (hungN nd c x k).up = (nd k).up := by unfold hungN; rw [upd_other _ _ e]
theorem Lc.rehang (H : Lc live nd T S P) (lc : live c) (tc : T c = S c) (hx : x ≠ 0 → live x ∧ S x ≠ S c) : Lc live (hungN nd c x) T S (hungP S P c x) := by
  have noch := fun k lk => H.nochild lc (k := k) lk tc
  have inS : ∀ h, live h → (h ∈ S c ↔ S h = S c) := fun h lh => ⟨fun m => (H.mem c lc h m).2.1, fun m => by rw [← m]; exact H.self h lh⟩
  refine ⟨H.nz, H.t0, fun h lh => ?_, fun h lh h0 => ?_, fun h lh h0 => ?_, fun h lh h0 => ?_, fun h lh t => ?_, H.nodup, H.self, fun h lh k hk => ?_, fun h lh h0 => ?_, fun h lh h0 => ?_⟩
  · rw [(hungN_lr nd c x h).1, (hungN_lr nd c x h).2.1, (hungN_lr nd c x h).2.2]; exact H.t h lh
  · rw [(hungN_lr nd c x h).1] at h0 ⊢
    have := H.l h lh h0
    rw [hungN_up nd c x (noch h lh).1]; exact this
  · rw [(hungN_lr nd c x h).2.1] at h0 ⊢
    have := H.r h lh h0
    rw [hungN_up nd c x (noch h lh).2]; exact this
  · by_cases q : h = c
    · subst q
      unfold hungN at h0 ⊢; rw [upd_same] at h0 ⊢; exact (hx h0).1
    · rw [hungN_up nd c x q] at h0 ⊢; exact H.u h lh h0
  · by_cases q : h = c
    · subst q
      refine ⟨tc, ?_⟩
      unfold hungP hungN; rw [upd_same, if_pos (H.self h lh)]
    · rw [hungN_up nd c x q] at t ⊢
      rw [(hungN_lr nd c x _).1, (hungN_lr nd c x _).2.1] at t
      have := H.top h lh t
      refine ⟨this.1, ?_⟩
      unfold hungP
      rw [if_neg]
      · exact this.2
      · exact fun m => q (H.one lc lh tc this.1 ((inS h lh).1 m))
  · have := H.mem h lh k hk
    refine ⟨this.1, this.2.1, ?_⟩
    unfold hungP
    by_cases q : h ∈ S c
    · rw [if_pos q, if_pos ((inS k this.1).2 (this.2.1.trans ((inS h lh).1 q)))]
    · rw [if_neg q, if_neg (fun m => q ((inS h lh).2 (this.2.1.symm.trans ((inS k this.1).1 m))))]; exact this.2.2
  · unfold hungP at h0 ⊢
    by_cases q : h ∈ S c
    · rw [if_pos q] at h0 ⊢; rw [(inS h lh).1 q]; exact (hx h0).2
    · rw [if_neg q] at h0 ⊢; exact H.out h lh h0
  · unfold hungP at h0 ⊢
    by_cases q : h ∈ S c
    · rw [if_pos q] at h0 ⊢; exact (hx h0).1
    · rw [if_neg q] at h0 ⊢; exact H.pl h lh h0
theorem Rt.head_of (hT : Rt live R) {k y : Nat} (lk : live k) (m : y ∈ R k) : (R y).head? = (R k).head? := by
  obtain ⟨q, e⟩ := hT.pre k lk y m
  obtain ⟨p, e2⟩ := hT.last y (hT.mem k lk y m)
  rw [e, e2]; simp [List.head?_append]
theorem Rt.rehang (hT : Rt live R) (lc : live c) (lx : live x) (ne : (R x).head? ≠ (R c).head?) : Rt live (hungR R c x) := by
  have rx : hungR R c x x = R x := by unfold hungR; rw [if_neg ne]
  refine ⟨fun n ln => ?_, fun n ln y hy => ?_, fun n ln y hy => ?_, fun n ln => ?_⟩
  · obtain ⟨p, e⟩ := hT.last n ln
    unfold hungR; split
    · exact ⟨R x ++ p, by rw [e]; simp⟩
    · exact ⟨p, e⟩
  · unfold hungR at hy; split at hy
    · rcases List.mem_append.1 hy with m | m
      · exact hT.mem x lx y m
      · exact hT.mem n ln y m
    · exact hT.mem n ln y hy
  · unfold hungR at hy
    by_cases q : (R n).head? = (R c).head?
    · rw [if_pos q] at hy
      have en : hungR R c x n = R x ++ R n := by unfold hungR; rw [if_pos q]
      rcases List.mem_append.1 hy with m | m
      · have : hungR R c x y = R y := by unfold hungR; rw [if_neg]; rw [hT.head_of lx m]; exact ne
        obtain ⟨r, er⟩ := hT.pre x lx y m
        exact ⟨r ++ R n, by rw [en, this, er]; simp⟩
      · have : hungR R c x y = R x ++ R y := by unfold hungR; rw [if_pos]; rw [hT.head_of ln m]; exact q
        obtain ⟨r, er⟩ := hT.pre n ln y m
        exact ⟨r, by rw [en, this, er]; simp⟩
    · rw [if_neg q] at hy
      have en : hungR R c x n = R n := by unfold hungR; rw [if_neg q]
      have : hungR R c x y = R y := by unfold hungR; rw [if_neg]; rw [hT.head_of ln hy]; exact q
      rw [en, this]; exact hT.pre n ln y hy
  · unfold hungR; split
    · rename_i q
      rw [List.nodup_append]
      refine ⟨hT.nodup x lx, hT.nodup n ln, fun a ha b hb e => ?_⟩
      subst e
      exact ne ((hT.head_of lx ha).symm.trans ((hT.head_of ln hb).trans q))
    · exact hT.nodup n ln
theorem Rc.rehang (H : Lc live nd T S P) (hR : Rc live S P R) (hT : Rt live R) (lc : live c) (pc : P c = 0) (lx : live x) (ne : (R x).head? ≠ (R c).head?) : Rc live S (hungP S P c x) (hungR R c x) := by
  have x0 := H.ne0 lx
  have rx : hungR R c x x = R x := by unfold hungR; rw [if_neg ne]
  intro h lh A y B e
  have hy : y ∈ S h := by rw [e]; simp
  have ry := hR h lh A y B e
  have hd := Rc.one H hR lh hy
  unfold hungP
  by_cases q : h ∈ S c
  · rw [if_pos q, if_neg x0, rx]
    have m := H.mem c lc h q
    rw [m.2.2, pc, if_pos rfl] at ry
    have : (R y).head? = (R c).head? := by rw [hd, Rc.one H hR lc q]
    unfold hungR
    rw [if_pos this, ry]; simp
  · rw [if_neg q]
    by_cases p0 : P h = 0
    · rw [if_pos p0] at ry ⊢
      have : (R y).head? ≠ (R c).head? := fun z => by
        obtain ⟨A2, e2⟩ := Rc.at_self H hR lc
        obtain ⟨f, F, ef⟩ : ∃ f F, S h = f :: F := by
          cases e3 : S h with
          | nil => rw [e3] at hy; simp at hy
          | cons f F => exact ⟨f, F, rfl⟩
        obtain ⟨g, G, eg⟩ : ∃ g G, S c = g :: G := by
          cases e3 : S c with
          | nil => have := H.self c lc; rw [e3] at this; simp at this
          | cons f F => exact ⟨f, F, rfl⟩
        have r1 := hR h lh [] f F ef
        have r2 := hR c lc [] g G eg
        rw [p0, if_pos rfl] at r1
        rw [pc, if_pos rfl] at r2
        have z2 : (R f).head? = (R g).head? := by
          rw [Rc.one H hR lh (by rw [ef]; simp), Rc.one H hR lc (show g ∈ S c by rw [eg]; simp), ← hd, z]
        rw [r1, r2] at z2
        simp at z2
        have m1 := H.mem c lc g (by rw [eg]; simp)
        have m2 := H.mem h lh f (by rw [ef]; simp)
        refine q ?_
        rw [← m1.2.1, ← z2, m2.2.1]; exact H.self h lh
      unfold hungR
      rw [if_neg this]; exact ry
    · rw [if_neg p0] at ry ⊢
      have lp := H.pl h lh p0
      have hd2 : (R y).head? = (R (P h)).head? := by
        obtain ⟨p, ep⟩ := hT.last _ lp
        rw [ry, ep]; simp [List.head?_append]
      unfold hungR
      rw [hd2]
      split
      · rw [ry]; simp
      · exact ry

/-- A new node, alone. -/
def addL (live : Nat → Prop) (e : Nat) : Nat → Prop := fun k => live k ∨ k = e
theorem Lc.add (H : Lc live nd T S P) (hs : Small live) (ne : ¬ live e) (e0 : e ≠ 0) : Lc (addL live e) (upd nd e ⟨0, 0, 0, false⟩) (upd T e [e]) (upd S e [e]) (upd P e 0) := by
  have old : ∀ k, live k → k ≠ e := fun k lk x => ne (x ▸ lk)
  have t0 : ∀ k, (k ≠ 0 → live k) → upd T e [e] k = T k := fun k hk => upd_other _ _ (fun x => by by_cases k0 : k = 0; exact e0 (x ▸ k0); exact ne (x ▸ hk k0))
  have Pl : ∀ h, live h → P h ≠ 0 → upd S e [e] (P h) = S (P h) := fun h lh h0 => upd_other _ _ (old _ (H.pl h lh h0))
  have nl : ∀ k ∈ [e], k = e := fun k hk => by simpa using hk
  refine ⟨fun x => x.elim H.nz (fun y => e0 y.symm), by rw [upd_other _ _ (Ne.symm e0)]; exact H.t0, fun h lh => ?_, fun h lh h0 => ?_, fun h lh h0 => ?_, fun h lh h0 => ?_, fun h lh t => ?_, fun h lh => ?_, fun h lh => ?_, fun h lh k hk => ?_, fun h lh h0 => ?_, fun h lh h0 => ?_⟩
  · rcases lh with lh | rfl
    · have := old h lh
      rw [upd_other _ _ this, upd_other _ _ this, t0 _ (fun z => (H.l h lh z).1), t0 _ (fun z => (H.r h lh z).1)]; exact H.t h lh
    · rw [upd_same, upd_same, upd_other _ _ (Ne.symm e0), H.t0]; rfl
  · rcases lh with lh | rfl
    · have := old h lh
      rw [upd_other _ _ this] at h0 ⊢
      have l := H.l h lh h0
      rw [upd_other _ _ (old _ l.1), upd_other _ _ (old _ l.1), upd_other _ _ this]; exact ⟨.inl l.1, l.2⟩
    · rw [upd_same] at h0; exact absurd rfl h0
  · rcases lh with lh | rfl
    · have := old h lh
      rw [upd_other _ _ this] at h0 ⊢
      have l := H.r h lh h0
      rw [upd_other _ _ (old _ l.1), upd_other _ _ (old _ l.1), upd_other _ _ this]; exact ⟨.inl l.1, l.2⟩
    · rw [upd_same] at h0; exact absurd rfl h0
  · rcases lh with lh | rfl
    · rw [upd_other _ _ (old h lh)] at h0 ⊢; exact .inl (H.u h lh h0)
    · rw [upd_same] at h0; exact absurd rfl h0
  · rcases lh with lh | rfl
    · have := old h lh
      rw [upd_other _ _ this] at t ⊢
      rw [upd_other _ _ this, upd_other _ _ this, upd_other _ _ this]
      refine H.top h lh ?_
      rcases t with t | t
      · exact .inl t
      · by_cases u0 : (nd h).up = 0
        · exact .inl u0
        · rw [upd_other _ _ (old _ (H.u h lh u0))] at t; exact .inr t
    · rw [upd_same, upd_same, upd_same, upd_same]; exact ⟨rfl, rfl⟩
  · rcases lh with lh | rfl
    · rw [upd_other _ _ (old h lh)]; exact H.nodup h lh
    · rw [upd_same]; simp
  · rcases lh with lh | rfl
    · rw [upd_other _ _ (old h lh)]; exact H.self h lh
    · rw [upd_same]; simp
  · rcases lh with lh | rfl
    · have a := old h lh
      rw [upd_other _ _ a] at hk
      have m := H.mem h lh k hk
      have b := old k m.1
      rw [upd_other _ _ a, upd_other _ _ b, upd_other _ _ a, upd_other _ _ b]; exact ⟨.inl m.1, m.2⟩
    · rw [upd_same] at hk
      have := nl k hk
      subst this
      exact ⟨.inr rfl, rfl, rfl⟩
  · rcases lh with lh | rfl
    · have a := old h lh
      rw [upd_other _ _ a] at h0 ⊢
      rw [Pl h lh h0, upd_other _ _ a]; exact H.out h lh h0
    · rw [upd_same] at h0; exact absurd rfl h0
  · rcases lh with lh | rfl
    · rw [upd_other _ _ (old h lh)] at h0 ⊢; exact .inl (H.pl h lh h0)
    · rw [upd_same] at h0; exact absurd rfl h0
theorem Rt.add (hT : Rt live R) (ne : ¬ live e) : Rt (addL live e) (upd R e [e]) := by
  have old : ∀ k, live k → upd R e [e] k = R k := fun k lk => upd_other _ _ (fun x => ne (x ▸ lk))
  refine ⟨fun n ln => ?_, fun n ln y hy => ?_, fun n ln y hy => ?_, fun n ln => ?_⟩ <;> rcases ln with ln | rfl
  · rw [old n ln]; exact hT.last n ln
  · rw [upd_same]; exact ⟨[], rfl⟩
  · rw [old n ln] at hy; exact .inl (hT.mem n ln y hy)
  · rw [upd_same] at hy; exact .inr (by simpa using hy)
  · rw [old n ln] at hy ⊢; rw [old y (hT.mem n ln y hy)]; exact hT.pre n ln y hy
  · rw [upd_same] at hy
    have : y = n := by simpa using hy
    subst this
    exact ⟨[], by simp⟩
  · rw [old n ln]; exact hT.nodup n ln
  · rw [upd_same]; simp
theorem Rc.add (H : Lc live nd T S P) (hR : Rc live S P R) (ne : ¬ live e) : Rc (addL live e) (upd S e [e]) (upd P e 0) (upd R e [e]) := by
  have old : ∀ k, live k → upd R e [e] k = R k := fun k lk => upd_other _ _ (fun x => ne (x ▸ lk))
  intro h lh A y B q
  rcases lh with lh | rfl
  · have a : h ≠ e := fun x => ne (x ▸ lh)
    rw [upd_other _ _ a] at q ⊢
    rw [old y (H.mem h lh y (by rw [q]; simp)).1, hR h lh A y B q]
    by_cases p0 : P h = 0
    · rw [if_pos p0, if_pos p0]
    · rw [if_neg p0, if_neg p0, old _ (H.pl h lh p0)]
  · rw [upd_same] at q ⊢
    cases A with
    | nil => simp at q; rw [← q.1, upd_same]; simp
    | cons z Z => simp at q
theorem Hv.add (V : Hv E live T hv) (ne : ¬ live e) (e0 : e ≠ 0) {E' : Nat → Ed} (hE : ∀ k, live k → E' k = E k) (H : Lc live nd T S P) : Hv E' (addL live e) (upd T e [e]) (upd hv e (own e)) := fun k lk => by
  rcases lh : lk with lk | rfl
  · have a : k ≠ e := fun x => ne (x ▸ lk)
    rw [upd_other _ _ a, upd_other _ _ a]
    rcases V k lk with ⟨a1, a2⟩ | ⟨a1, a2, a3, a4⟩
    · exact .inl ⟨a1, a2⟩
    · refine .inr ⟨a1, a2, a3, fun j hj ej => ?_⟩
      have lj := (H.sub lk hj).1
      have lm := (H.sub lk a2).1
      unfold lighter
      rw [hE j lj, hE _ lm]; exact a4 j hj ej
  · rw [upd_same, upd_same]; exact TopE.own e0

end Go.Proofs.Ytffmlffhiimmdaa
