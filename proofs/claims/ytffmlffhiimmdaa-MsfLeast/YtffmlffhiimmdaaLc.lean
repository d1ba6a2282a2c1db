/- Paths as trees that turn about and may stand the other way round. No program. -/
import Derived.WalkKit
namespace Go.Proofs.Ytffmlffhiimmdaa
set_option linter.unusedVariables false

/-- A node's links, as they lie in memory (0: none). -/
structure Ln where
  up : Nat
  l : Nat
  r : Nat
  tw : Bool
/-- T h: h and all below it in its path's tree, in their order; S h: the whole path; P h: what the path hangs below. -/
structure Lc (live : Nat → Prop) (nd : Nat → Ln) (T S : Nat → List Nat) (P : Nat → Nat) : Prop where
  nz : ¬ live 0
  t0 : T 0 = []
  t : ∀ h, live h → T h = if (nd h).tw then (T (nd h).l ++ h :: T (nd h).r).reverse else T (nd h).l ++ h :: T (nd h).r
  l : ∀ h, live h → (nd h).l ≠ 0 → live (nd h).l ∧ (nd (nd h).l).up = h ∧ S (nd h).l = S h
  r : ∀ h, live h → (nd h).r ≠ 0 → live (nd h).r ∧ (nd (nd h).r).up = h ∧ S (nd h).r = S h
  u : ∀ h, live h → (nd h).up ≠ 0 → live (nd h).up
  top : ∀ h, live h → ((nd h).up = 0 ∨ ((nd (nd h).up).l ≠ h ∧ (nd (nd h).up).r ≠ h)) → T h = S h ∧ P h = (nd h).up
  nodup : ∀ h, live h → (T h).Nodup
  self : ∀ h, live h → h ∈ S h
  mem : ∀ h, live h → ∀ k ∈ S h, live k ∧ S k = S h ∧ P k = P h
  out : ∀ h, live h → P h ≠ 0 → S (P h) ≠ S h
  pl : ∀ h, live h → P h ≠ 0 → live (P h)

variable {live : Nat → Prop} {nd : Nat → Ln} {T S : Nat → List Nat} {P : Nat → Nat}

theorem Lc.len (H : Lc live nd T S P) {h : Nat} (hl : live h) : (T h).length = (T (nd h).l).length + 1 + (T (nd h).r).length := by
  rw [H.t h hl]; split <;> simp <;> omega
theorem Lc.ne0 (H : Lc live nd T S P) {h : Nat} (hl : live h) : h ≠ 0 := fun e => H.nz (e ▸ hl)
theorem Lc.mem_t (H : Lc live nd T S P) {h k : Nat} (hl : live h) : k ∈ T h ↔ k ∈ T (nd h).l ∨ k = h ∨ k ∈ T (nd h).r := by
  rw [H.t h hl]; split
  · simp only [List.mem_reverse, List.mem_append, List.mem_cons]
  · simp only [List.mem_append, List.mem_cons]
theorem Lc.selfT (H : Lc live nd T S P) {h : Nat} (hl : live h) : h ∈ T h := (H.mem_t hl).2 (.inr (.inl rfl))
/-- A child is no node that it hangs on. -/
theorem Lc.ne_l (H : Lc live nd T S P) {h : Nat} (hl : live h) : (nd h).l ≠ h := fun e => by have := H.len hl; rw [e] at this; omega
theorem Lc.ne_r (H : Lc live nd T S P) {h : Nat} (hl : live h) : (nd h).r ≠ h := fun e => by have := H.len hl; rw [e] at this; omega
/-- Whose child a node is. -/
theorem Lc.of_l (H : Lc live nd T S P) {h k : Nat} (hl : live h) (hk : live k) (h0 : (nd h).l ≠ 0) (e : (nd k).l = (nd h).l ∨ (nd k).r = (nd h).l) : k = h := by
  have a := (H.l h hl h0).2.1
  rcases e with e | e
  · have b := (H.l k hk (by rw [e]; exact h0)).2.1; rw [e, a] at b; exact b.symm
  · have b := (H.r k hk (by rw [e]; exact h0)).2.1; rw [e, a] at b; exact b.symm
theorem Lc.of_r (H : Lc live nd T S P) {h k : Nat} (hl : live h) (hk : live k) (h0 : (nd h).r ≠ 0) (e : (nd k).l = (nd h).r ∨ (nd k).r = (nd h).r) : k = h := by
  have a := (H.r h hl h0).2.1
  rcases e with e | e
  · have b := (H.l k hk (by rw [e]; exact h0)).2.1; rw [e, a] at b; exact b.symm
  · have b := (H.r k hk (by rw [e]; exact h0)).2.1; rw [e, a] at b; exact b.symm
/-- What settle leaves. -/
def settleN (nd : Nat → Ln) (h : Nat) : Nat → Ln := fun k =>
  if k = h then ⟨(nd h).up, (nd h).r, (nd h).l, false⟩
  else if k ≠ 0 ∧ (k = (nd h).l ∨ k = (nd h).r) then ⟨(nd k).up, (nd k).l, (nd k).r, !(nd k).tw⟩ else nd k
def settleT (nd : Nat → Ln) (T : Nat → List Nat) (h : Nat) : Nat → List Nat := fun k => if k ≠ h ∧ k ≠ 0 ∧ (k = (nd h).l ∨ k = (nd h).r) then (T k).reverse else T k
theorem settleN_up (nd : Nat → Ln) (h k : Nat) : (settleN nd h k).up = (nd k).up := by
  unfold settleN; split
  · rename_i e; rw [e]
  · split <;> rfl
theorem settleN_h (nd : Nat → Ln) (h : Nat) : settleN nd h h = ⟨(nd h).up, (nd h).r, (nd h).l, false⟩ := by unfold settleN; rw [if_pos rfl]
theorem settleN_lr (nd : Nat → Ln) (h k : Nat) (hk : k ≠ h) : (settleN nd h k).l = (nd k).l ∧ (settleN nd h k).r = (nd k).r := by
  unfold settleN; rw [if_neg hk]; split <;> exact ⟨rfl, rfl⟩
theorem Lc.settle (H : Lc live nd T S P) {h : Nat} (hl : live h) (htw : (nd h).tw = true) : Lc live (settleN nd h) (settleT nd T h) S P := by
  have nl := H.ne_l hl
  have nr := H.ne_r hl
  have tl : settleT nd T h (nd h).l = (T (nd h).l).reverse := by
    unfold settleT
    by_cases e : (nd h).l = 0
    · rw [if_neg (by simp [e]), e, H.t0]; rfl
    · rw [if_pos ⟨nl, e, .inl rfl⟩]
  have tr : settleT nd T h (nd h).r = (T (nd h).r).reverse := by
    unfold settleT
    by_cases e : (nd h).r = 0
    · rw [if_neg (by simp [e]), e, H.t0]; rfl
    · rw [if_pos ⟨nr, e, .inr rfl⟩]
  have th : settleT nd T h h = T h := by unfold settleT; rw [if_neg (by simp)]
  have toth : ∀ k, ¬ (k ≠ 0 ∧ (k = (nd h).l ∨ k = (nd h).r)) → settleT nd T h k = T k := fun k hk => by
    unfold settleT; rw [if_neg (fun q => hk ⟨q.2.1, q.2.2⟩)]
  -- a child of another node is none of h's
  have chl : ∀ k, live k → k ≠ h → settleT nd T h (nd k).l = T (nd k).l ∧ settleT nd T h (nd k).r = T (nd k).r := fun k lk hk => by
    constructor
    · refine toth _ (fun q => ?_)
      rcases q.2 with e | e
      · exact hk (H.of_l hl lk (by rw [← e]; exact q.1) (.inl e))
      · exact hk (H.of_r hl lk (by rw [← e]; exact q.1) (.inl e))
    · refine toth _ (fun q => ?_)
      rcases q.2 with e | e
      · exact hk (H.of_l hl lk (by rw [← e]; exact q.1) (.inr e))
      · exact hk (H.of_r hl lk (by rw [← e]; exact q.1) (.inr e))
  refine ⟨H.nz, ?_, fun k lk => ?_, fun k lk h0 => ?_, fun k lk h0 => ?_, fun k lk h0 => ?_, fun k lk ht => ?_, fun k lk => ?_, H.self, H.mem, H.out, H.pl⟩
  · rw [toth 0 (by simp), H.t0]
  · by_cases e : k = h
    · subst e
      rw [settleN_h, th]
      simp only [Bool.false_eq_true, if_false]
      rw [tl, tr, H.t k hl, if_pos htw]
      simp
    · obtain ⟨e1, e2⟩ := settleN_lr nd h k e
      obtain ⟨c1, c2⟩ := chl k lk e
      rw [e1, e2, c1, c2]
      by_cases q : k ≠ 0 ∧ (k = (nd h).l ∨ k = (nd h).r)
      · have et : (settleN nd h k).tw = !(nd k).tw := by unfold settleN; rw [if_neg e, if_pos q]
        have es : settleT nd T h k = (T k).reverse := by unfold settleT; rw [if_pos ⟨e, q.1, q.2⟩]
        rw [et, es, H.t k lk]
        cases (nd k).tw <;> simp
      · have et : (settleN nd h k).tw = (nd k).tw := by unfold settleN; rw [if_neg e, if_neg q]
        rw [et, toth k q, H.t k lk]
  · by_cases e : k = h
    · subst e
      rw [settleN_h] at h0 ⊢
      simp only at h0 ⊢
      rw [settleN_up]; exact H.r k hl h0
    · rw [(settleN_lr nd h k e).1] at h0 ⊢
      rw [settleN_up]; exact H.l k lk h0
  · by_cases e : k = h
    · subst e
      rw [settleN_h] at h0 ⊢
      simp only at h0 ⊢
      rw [settleN_up]; exact H.l k hl h0
    · rw [(settleN_lr nd h k e).2] at h0 ⊢
      rw [settleN_up]; exact H.r k lk h0
  · rw [settleN_up] at h0 ⊢; exact H.u k lk h0
  · rw [settleN_up] at ht ⊢
    have ht2 : (nd k).up = 0 ∨ ((nd (nd k).up).l ≠ k ∧ (nd (nd k).up).r ≠ k) := by
      rcases ht with ht | ht
      · exact .inl ht
      · refine .inr ?_
        by_cases e : (nd k).up = h
        · rw [e, settleN_h] at ht; rw [e]; exact ⟨ht.2, ht.1⟩
        · obtain ⟨e1, e2⟩ := settleN_lr nd h _ e
          rw [e1, e2] at ht; exact ht
    obtain ⟨a, b⟩ := H.top k lk ht2
    refine ⟨?_, b⟩
    rw [← a]
    refine toth k (fun q => ?_)
    rcases q.2 with e | e
    · have hu : (nd k).up = h := by rw [e]; exact (H.l h hl (by rw [← e]; exact q.1)).2.1
      rcases ht2 with z | z
      · rw [z] at hu; exact H.ne0 hl hu.symm
      · rw [hu] at z; exact z.1 e.symm
    · have hu : (nd k).up = h := by rw [e]; exact (H.r h hl (by rw [← e]; exact q.1)).2.1
      rcases ht2 with z | z
      · rw [z] at hu; exact H.ne0 hl hu.symm
      · rw [hu] at z; exact z.2 e.symm
  · unfold settleT
    split
    · unfold List.Nodup; rw [List.pairwise_reverse]; exact (H.nodup k lk).imp (fun h e => h e.symm)
    · exact H.nodup k lk

/-- What a turn leaves: h hung at its upper side. -/
def rotLN (nd : Nat → Ln) (h u : Nat) : Nat → Ln := fun k =>
  if k = h then ⟨(nd u).up, (nd h).l, u, false⟩
  else if k = u then ⟨h, (nd h).r, (nd u).r, false⟩
  else ⟨if k ≠ 0 ∧ k = (nd h).r then u else (nd k).up, if (nd k).l = u then h else (nd k).l, if (nd k).r = u then h else (nd k).r, (nd k).tw⟩
def rotLT (nd : Nat → Ln) (T : Nat → List Nat) (h u : Nat) : Nat → List Nat := fun k => if k = h then T u else if k = u then T (nd h).r ++ u :: T (nd u).r else T k
theorem Lc.rotL (H : Lc live nd T S P) {h u : Nat} (hl : live h) (ul : live u) (e : (nd u).l = h) (twh : (nd h).tw = false) (twu : (nd u).tw = false) : Lc live (rotLN nd h u) (rotLT nd T h u) S P := by
  have h0 := H.ne0 hl
  have u0 := H.ne0 ul
  have hup : (nd h).up = u := by rw [← e]; exact (H.l u ul (by rw [e]; exact h0)).2.1
  have hS : S h = S u := by rw [← e]; exact (H.l u ul (by rw [e]; exact h0)).2.2
  have Tu : T u = T h ++ u :: T (nd u).r := by rw [H.t u ul, if_neg (by simp [twu]), e]
  have Th : T h = T (nd h).l ++ h :: T (nd h).r := by rw [H.t h hl, if_neg (by simp [twh])]
  have nhu : h ≠ u := by rw [← e]; exact H.ne_l ul
  have lenh := H.len hl
  have lenu := H.len ul
  rw [e] at lenu
  have ndu := H.nodup u ul
  have ndh := H.nodup h hl
  have tpos : ∀ k, live k → 0 < (T k).length := fun k lk => by have := H.len lk; omega
  have mne : (nd h).r ≠ h ∧ (nd h).r ≠ u := ⟨H.ne_r hl, fun q => by rw [q] at lenh; omega⟩
  have ane : (nd h).l ≠ h ∧ (nd h).l ≠ u := ⟨H.ne_l hl, fun q => by rw [q] at lenh; omega⟩
  have dne : (nd u).r ≠ h ∧ (nd u).r ≠ u := by
    refine ⟨fun q => ?_, H.ne_r ul⟩
    rw [Tu, q, List.nodup_append] at ndu
    exact ndu.2.2 h (H.selfT hl) h (List.mem_cons_of_mem _ (H.selfT hl)) rfl
  have am : (nd h).r ≠ 0 → (nd h).l ≠ (nd h).r := fun m0 q => by
    rw [Th, q, List.nodup_append] at ndh
    have lm := (H.r h hl m0).1
    exact ndh.2.2 _ (H.selfT lm) _ (List.mem_cons_of_mem _ (H.selfT lm)) rfl
  have dm : (nd h).r ≠ 0 → (nd u).r ≠ (nd h).r := fun m0 q => by
    have a := (H.r h hl m0).2.1
    have b := (H.r u ul (by rw [q]; exact m0)).2.1
    rw [q, a] at b; exact nhu b
  have nh : rotLN nd h u h = ⟨(nd u).up, (nd h).l, u, false⟩ := by unfold rotLN; rw [if_pos rfl]
  have nu : rotLN nd h u u = ⟨h, (nd h).r, (nd u).r, false⟩ := by unfold rotLN; rw [if_neg nhu.symm, if_pos rfl]
  have nk : ∀ k, k ≠ h → k ≠ u → rotLN nd h u k = ⟨if k ≠ 0 ∧ k = (nd h).r then u else (nd k).up, if (nd k).l = u then h else (nd k).l, if (nd k).r = u then h else (nd k).r, (nd k).tw⟩ := fun k h1 h2 => by unfold rotLN; rw [if_neg h1, if_neg h2]
  have Th' : rotLT nd T h u h = T u := by unfold rotLT; rw [if_pos rfl]
  have Tu' : rotLT nd T h u u = T (nd h).r ++ u :: T (nd u).r := by unfold rotLT; rw [if_neg nhu.symm, if_pos rfl]
  have Tk' : ∀ k, k ≠ h → k ≠ u → rotLT nd T h u k = T k := fun k h1 h2 => by unfold rotLT; rw [if_neg h1, if_neg h2]
  -- u hangs on none of both
  have ovne : (nd u).up ≠ h ∧ (nd u).up ≠ u := by
    constructor
    · intro q
      obtain ⟨a, b⟩ := H.top u ul (.inr (by rw [q]; exact ⟨ane.2, mne.2⟩))
      exact H.out u ul (by rw [b, q]; exact h0) (by rw [b, q]; exact hS)
    · intro q
      obtain ⟨a, b⟩ := H.top u ul (.inr (by rw [q]; exact ⟨by rw [e]; exact nhu, dne.2⟩))
      exact H.out u ul (by rw [b, q]; exact u0) (by rw [b, q])
  have upk : ∀ k, live k → k ≠ h → k ≠ u → k ≠ (nd h).r → (rotLN nd h u k).up = (nd k).up := fun k lk h1 h2 h3 => by rw [nk k h1 h2]; simp [h3]
  -- a child of another node
  have side : ∀ k c, live k → k ≠ h → k ≠ u → c ≠ 0 → ((nd k).l = c ∨ (nd k).r = c) → live c → (nd c).up = k → S c = S k → live (if c = u then h else c) ∧ (rotLN nd h u (if c = u then h else c)).up = k ∧ S (if c = u then h else c) = S k ∧ rotLT nd T h u (if c = u then h else c) = T c := fun k c lk h1 h2 c0 hc lc uc sc => by
    by_cases q : c = u
    · subst q
      rw [if_pos rfl, nh, Th']
      exact ⟨hl, uc, by rw [hS]; exact sc, rfl⟩
    · rw [if_neg q]
      have c1 : c ≠ h := fun z => by rw [z, hup] at uc; exact h2 uc.symm
      have c2 : c ≠ (nd h).r := fun z => by
        have := (H.r h hl (by rw [← z]; exact c0)).2.1
        rw [← z, uc] at this; exact h1 this
      exact ⟨lc, by rw [upk c lc c1 q c2]; exact uc, sc, Tk' c c1 q⟩
  have sideT : ∀ k c, live k → k ≠ h → k ≠ u → ((nd k).l = c ∨ (nd k).r = c) → rotLT nd T h u (if c = u then h else c) = T c := fun k c lk h1 h2 hc => by
    by_cases c0 : c = 0
    · subst c0; rw [if_neg u0.symm, Tk' 0 h0.symm u0.symm]
    · rcases hc with q | q
      · obtain ⟨a, b, d⟩ := H.l k lk (by rw [q]; exact c0)
        rw [q] at a b d
        exact (side k c lk h1 h2 c0 (.inl q) a b d).2.2.2
      · obtain ⟨a, b, d⟩ := H.r k lk (by rw [q]; exact c0)
        rw [q] at a b d
        exact (side k c lk h1 h2 c0 (.inr q) a b d).2.2.2
  refine ⟨H.nz, ?_, fun k lk => ?_, fun k lk z0 => ?_, fun k lk z0 => ?_, fun k lk z0 => ?_, fun k lk ht => ?_, fun k lk => ?_, H.self, H.mem, H.out, H.pl⟩
  · rw [Tk' 0 h0.symm u0.symm]; exact H.t0
  · by_cases k1 : k = h
    · subst k1
      rw [nh, Th']
      simp only [Bool.false_eq_true, if_false]
      rw [Tu', Tk' _ ane.1 ane.2, Tu, Th]
      simp
    · by_cases k2 : k = u
      · subst k2
        rw [nu, Tu']
        simp only [Bool.false_eq_true, if_false]
        rw [Tk' _ mne.1 mne.2, Tk' _ dne.1 dne.2]
      · rw [nk k k1 k2, Tk' k k1 k2]
        simp only
        rw [sideT k _ lk k1 k2 (.inl rfl), sideT k _ lk k1 k2 (.inr rfl)]
        exact H.t k lk
  · by_cases k1 : k = h
    · subst k1
      rw [nh] at z0 ⊢
      simp only at z0 ⊢
      obtain ⟨a, b, c⟩ := H.l k hl z0
      refine ⟨a, ?_, c⟩
      by_cases q : (nd k).r = 0
      · rw [nk _ ane.1 ane.2]; simp [q, b, z0]
      · rw [upk _ a ane.1 ane.2 (am q)]; exact b
    · by_cases k2 : k = u
      · subst k2
        rw [nu] at z0 ⊢
        simp only at z0 ⊢
        obtain ⟨a, b, c⟩ := H.r h hl z0
        refine ⟨a, ?_, by rw [c]; exact hS⟩
        rw [nk _ mne.1 mne.2]; simp [z0]
      · rw [nk k k1 k2] at z0 ⊢
        simp only at z0 ⊢
        by_cases c0 : (nd k).l = 0
        · rw [c0, if_neg u0.symm] at z0; exact absurd rfl z0
        · obtain ⟨a, b, c⟩ := H.l k lk c0
          obtain ⟨x, y, z, _⟩ := side k _ lk k1 k2 c0 (.inl rfl) a b c
          exact ⟨x, y, z⟩
  · by_cases k1 : k = h
    · subst k1
      rw [nh] at z0 ⊢
      simp only at z0 ⊢
      rw [nu]
      exact ⟨ul, rfl, hS.symm⟩
    · by_cases k2 : k = u
      · subst k2
        rw [nu] at z0 ⊢
        simp only at z0 ⊢
        obtain ⟨a, b, c⟩ := H.r k ul z0
        refine ⟨a, ?_, c⟩
        by_cases q : (nd h).r = 0
        · rw [nk _ dne.1 dne.2]; simp [q, b, z0]
        · rw [upk _ a dne.1 dne.2 (dm q)]; exact b
      · rw [nk k k1 k2] at z0 ⊢
        simp only at z0 ⊢
        by_cases c0 : (nd k).r = 0
        · rw [c0, if_neg u0.symm] at z0; exact absurd rfl z0
        · obtain ⟨a, b, c⟩ := H.r k lk c0
          obtain ⟨x, y, z, _⟩ := side k _ lk k1 k2 c0 (.inr rfl) a b c
          exact ⟨x, y, z⟩
  · by_cases k1 : k = h
    · subst k1; rw [nh] at z0 ⊢; exact H.u u ul z0
    · by_cases k2 : k = u
      · subst k2; rw [nu]; exact hl
      · rw [nk k k1 k2] at z0 ⊢
        simp only at z0 ⊢
        by_cases q : k ≠ 0 ∧ k = (nd h).r
        · rw [if_pos q]; exact ul
        · rw [if_neg q] at z0 ⊢; exact H.u k lk z0
  · by_cases k1 : k = h
    · subst k1
      rw [nh] at ht ⊢
      simp only at ht ⊢
      have ut : (nd u).up = 0 ∨ ((nd (nd u).up).l ≠ u ∧ (nd (nd u).up).r ≠ u) := by
        rcases ht with ht | ht
        · exact .inl ht
        · refine .inr ?_
          rw [nk _ ovne.1 ovne.2] at ht
          simp only at ht
          exact ⟨fun z => ht.1 (by rw [if_pos z]), fun z => ht.2 (by rw [if_pos z])⟩
      obtain ⟨a, b⟩ := H.top u ul ut
      rw [Th', a, hS]
      exact ⟨rfl, by rw [← b]; exact (H.mem u ul k (by rw [← hS]; exact H.self k hl)).2.2⟩
    · by_cases k2 : k = u
      · subst k2
        rw [nu] at ht
        simp only at ht
        rw [nh] at ht
        simp only at ht
        rcases ht with z | z
        · exact absurd z h0
        · exact absurd rfl z.2
      · have k0 := H.ne0 lk
        by_cases q : k = (nd h).r
        · have e1 : (rotLN nd h u k).up = u := by rw [nk k k1 k2]; simp only; rw [if_pos ⟨k0, q⟩]
          rw [e1, nu] at ht
          simp only at ht
          rcases ht with z | z
          · exact absurd z u0
          · exact absurd q.symm z.1
        · rw [upk k lk k1 k2 q] at ht ⊢
          rw [Tk' k k1 k2]
          refine H.top k lk ?_
          rcases ht with z | z
          · exact .inl z
          · refine .inr ?_
            by_cases v1 : (nd k).up = h
            · rw [v1, nh] at z; rw [v1]; simp only at z; exact ⟨z.1, fun y => q y.symm⟩
            · by_cases v2 : (nd k).up = u
              · rw [v2, nu] at z; rw [v2]; simp only at z; exact ⟨by rw [e]; exact fun y => k1 y.symm, z.2⟩
              · rw [nk _ v1 v2] at z
                simp only at z
                refine ⟨fun y => z.1 ?_, fun y => z.2 ?_⟩
                · rw [y, if_neg k2]
                · rw [y, if_neg k2]
  · by_cases k1 : k = h
    · subst k1; rw [Th']; exact ndu
    · by_cases k2 : k = u
      · subst k2
        rw [Tu']
        rw [Tu, Th, List.append_assoc, List.cons_append] at ndu
        exact (List.nodup_cons.1 (List.nodup_append.1 ndu).2.1).2
      · rw [Tk' k k1 k2]; exact H.nodup k lk

/-- What a turn leaves: h hung at its lower side. -/
def rotRN (nd : Nat → Ln) (h u : Nat) : Nat → Ln := fun k =>
  if k = h then ⟨(nd u).up, u, (nd h).r, false⟩
  else if k = u then ⟨h, (nd u).l, (nd h).l, false⟩
  else ⟨if k ≠ 0 ∧ k = (nd h).l then u else (nd k).up, if (nd k).l = u then h else (nd k).l, if (nd k).r = u then h else (nd k).r, (nd k).tw⟩
def rotRT (nd : Nat → Ln) (T : Nat → List Nat) (h u : Nat) : Nat → List Nat := fun k => if k = h then T u else if k = u then T (nd u).l ++ u :: T (nd h).l else T k
theorem Lc.rotR (H : Lc live nd T S P) {h u : Nat} (hl : live h) (ul : live u) (e : (nd u).r = h) (twh : (nd h).tw = false) (twu : (nd u).tw = false) : Lc live (rotRN nd h u) (rotRT nd T h u) S P := by
  have h0 := H.ne0 hl
  have u0 := H.ne0 ul
  have hup : (nd h).up = u := by rw [← e]; exact (H.r u ul (by rw [e]; exact h0)).2.1
  have hS : S h = S u := by rw [← e]; exact (H.r u ul (by rw [e]; exact h0)).2.2
  have Tu : T u = T (nd u).l ++ u :: T h := by rw [H.t u ul, if_neg (by simp [twu]), e]
  have Th : T h = T (nd h).l ++ h :: T (nd h).r := by rw [H.t h hl, if_neg (by simp [twh])]
  have nhu : h ≠ u := by rw [← e]; exact H.ne_r ul
  have lenh := H.len hl
  have lenu := H.len ul
  rw [e] at lenu
  have ndu := H.nodup u ul
  have ndh := H.nodup h hl
  have tpos : ∀ k, live k → 0 < (T k).length := fun k lk => by have := H.len lk; omega
  have mne : (nd h).l ≠ h ∧ (nd h).l ≠ u := ⟨H.ne_l hl, fun q => by rw [q] at lenh; omega⟩
  have ane : (nd h).r ≠ h ∧ (nd h).r ≠ u := ⟨H.ne_r hl, fun q => by rw [q] at lenh; omega⟩
  have dne : (nd u).l ≠ h ∧ (nd u).l ≠ u := by
    refine ⟨fun q => ?_, H.ne_l ul⟩
    rw [Tu, q, List.nodup_append] at ndu
    exact ndu.2.2 h (H.selfT hl) h (List.mem_cons_of_mem _ (H.selfT hl)) rfl
  have am : (nd h).l ≠ 0 → (nd h).r ≠ (nd h).l := fun m0 q => by
    rw [Th, q, List.nodup_append] at ndh
    have lm := (H.l h hl m0).1
    exact ndh.2.2 _ (H.selfT lm) _ (List.mem_cons_of_mem _ (H.selfT lm)) rfl
  have dm : (nd h).l ≠ 0 → (nd u).l ≠ (nd h).l := fun m0 q => by
    have a := (H.l h hl m0).2.1
    have b := (H.l u ul (by rw [q]; exact m0)).2.1
    rw [q, a] at b; exact nhu b
  have nh : rotRN nd h u h = ⟨(nd u).up, u, (nd h).r, false⟩ := by unfold rotRN; rw [if_pos rfl]
  have nu : rotRN nd h u u = ⟨h, (nd u).l, (nd h).l, false⟩ := by unfold rotRN; rw [if_neg nhu.symm, if_pos rfl]
  have nk : ∀ k, k ≠ h → k ≠ u → rotRN nd h u k = ⟨if k ≠ 0 ∧ k = (nd h).l then u else (nd k).up, if (nd k).l = u then h else (nd k).l, if (nd k).r = u then h else (nd k).r, (nd k).tw⟩ := fun k h1 h2 => by unfold rotRN; rw [if_neg h1, if_neg h2]
  have Th' : rotRT nd T h u h = T u := by unfold rotRT; rw [if_pos rfl]
  have Tu' : rotRT nd T h u u = T (nd u).l ++ u :: T (nd h).l := by unfold rotRT; rw [if_neg nhu.symm, if_pos rfl]
  have Tk' : ∀ k, k ≠ h → k ≠ u → rotRT nd T h u k = T k := fun k h1 h2 => by unfold rotRT; rw [if_neg h1, if_neg h2]
  -- u hangs on none of both
  have ovne : (nd u).up ≠ h ∧ (nd u).up ≠ u := by
    constructor
    · intro q
      obtain ⟨a, b⟩ := H.top u ul (.inr (by rw [q]; exact ⟨mne.2, ane.2⟩))
      exact H.out u ul (by rw [b, q]; exact h0) (by rw [b, q]; exact hS)
    · intro q
      obtain ⟨a, b⟩ := H.top u ul (.inr (by rw [q]; exact ⟨dne.2, by rw [e]; exact nhu⟩))
      exact H.out u ul (by rw [b, q]; exact u0) (by rw [b, q])
  have upk : ∀ k, live k → k ≠ h → k ≠ u → k ≠ (nd h).l → (rotRN nd h u k).up = (nd k).up := fun k lk h1 h2 h3 => by rw [nk k h1 h2]; simp [h3]
  -- a child of another node
  have side : ∀ k c, live k → k ≠ h → k ≠ u → c ≠ 0 → ((nd k).r = c ∨ (nd k).l = c) → live c → (nd c).up = k → S c = S k → live (if c = u then h else c) ∧ (rotRN nd h u (if c = u then h else c)).up = k ∧ S (if c = u then h else c) = S k ∧ rotRT nd T h u (if c = u then h else c) = T c := fun k c lk h1 h2 c0 hc lc uc sc => by
    by_cases q : c = u
    · subst q
      rw [if_pos rfl, nh, Th']
      exact ⟨hl, uc, by rw [hS]; exact sc, rfl⟩
    · rw [if_neg q]
      have c1 : c ≠ h := fun z => by rw [z, hup] at uc; exact h2 uc.symm
      have c2 : c ≠ (nd h).l := fun z => by
        have := (H.l h hl (by rw [← z]; exact c0)).2.1
        rw [← z, uc] at this; exact h1 this
      exact ⟨lc, by rw [upk c lc c1 q c2]; exact uc, sc, Tk' c c1 q⟩
  have sideT : ∀ k c, live k → k ≠ h → k ≠ u → ((nd k).r = c ∨ (nd k).l = c) → rotRT nd T h u (if c = u then h else c) = T c := fun k c lk h1 h2 hc => by
    by_cases c0 : c = 0
    · subst c0; rw [if_neg u0.symm, Tk' 0 h0.symm u0.symm]
    · rcases hc with q | q
      · obtain ⟨a, b, d⟩ := H.r k lk (by rw [q]; exact c0)
        rw [q] at a b d
        exact (side k c lk h1 h2 c0 (.inl q) a b d).2.2.2
      · obtain ⟨a, b, d⟩ := H.l k lk (by rw [q]; exact c0)
        rw [q] at a b d
        exact (side k c lk h1 h2 c0 (.inr q) a b d).2.2.2
  refine ⟨H.nz, ?_, fun k lk => ?_, fun k lk z0 => ?_, fun k lk z0 => ?_, fun k lk z0 => ?_, fun k lk ht => ?_, fun k lk => ?_, H.self, H.mem, H.out, H.pl⟩
  · rw [Tk' 0 h0.symm u0.symm]; exact H.t0
  · by_cases k1 : k = h
    · subst k1
      rw [nh, Th']
      simp only [Bool.false_eq_true, if_false]
      rw [Tu', Tk' _ ane.1 ane.2, Tu, Th]
      simp
    · by_cases k2 : k = u
      · subst k2
        rw [nu, Tu']
        simp only [Bool.false_eq_true, if_false]
        rw [Tk' _ mne.1 mne.2, Tk' _ dne.1 dne.2]
      · rw [nk k k1 k2, Tk' k k1 k2]
        simp only
        rw [sideT k _ lk k1 k2 (.inl rfl), sideT k _ lk k1 k2 (.inr rfl)]
        exact H.t k lk
  · by_cases k1 : k = h
    · subst k1
      rw [nh] at z0 ⊢
      simp only at z0 ⊢
      rw [nu]
      exact ⟨ul, rfl, hS.symm⟩
    · by_cases k2 : k = u
      · subst k2
        rw [nu] at z0 ⊢
        simp only at z0 ⊢
        obtain ⟨a, b, c⟩ := H.l k ul z0
        refine ⟨a, ?_, c⟩
        by_cases q : (nd h).l = 0
        · rw [nk _ dne.1 dne.2]; simp [q, b, z0]
        · rw [upk _ a dne.1 dne.2 (dm q)]; exact b
      · rw [nk k k1 k2] at z0 ⊢
        simp only at z0 ⊢
        by_cases c0 : (nd k).l = 0
        · rw [c0, if_neg u0.symm] at z0; exact absurd rfl z0
        · obtain ⟨a, b, c⟩ := H.l k lk c0
          obtain ⟨x, y, z, _⟩ := side k _ lk k1 k2 c0 (.inr rfl) a b c
          exact ⟨x, y, z⟩
  · by_cases k1 : k = h
    · subst k1
      rw [nh] at z0 ⊢
      simp only at z0 ⊢
      obtain ⟨a, b, c⟩ := H.r k hl z0
      refine ⟨a, ?_, c⟩
      by_cases q : (nd k).l = 0
      · rw [nk _ ane.1 ane.2]; simp [q, b, z0]
      · rw [upk _ a ane.1 ane.2 (am q)]; exact b
    · by_cases k2 : k = u
      · subst k2
        rw [nu] at z0 ⊢
        simp only at z0 ⊢
        obtain ⟨a, b, c⟩ := H.l h hl z0
        refine ⟨a, ?_, by rw [c]; exact hS⟩
        rw [nk _ mne.1 mne.2]; simp [z0]
      · rw [nk k k1 k2] at z0 ⊢
        simp only at z0 ⊢
        by_cases c0 : (nd k).r = 0
        · rw [c0, if_neg u0.symm] at z0; exact absurd rfl z0
        · obtain ⟨a, b, c⟩ := H.r k lk c0
          obtain ⟨x, y, z, _⟩ := side k _ lk k1 k2 c0 (.inl rfl) a b c
          exact ⟨x, y, z⟩
  · by_cases k1 : k = h
    · subst k1; rw [nh] at z0 ⊢; exact H.u u ul z0
    · by_cases k2 : k = u
      · subst k2; rw [nu]; exact hl
      · rw [nk k k1 k2] at z0 ⊢
        simp only at z0 ⊢
        by_cases q : k ≠ 0 ∧ k = (nd h).l
        · rw [if_pos q]; exact ul
        · rw [if_neg q] at z0 ⊢; exact H.u k lk z0
  · by_cases k1 : k = h
    · subst k1
      rw [nh] at ht ⊢
      simp only at ht ⊢
      have ut : (nd u).up = 0 ∨ ((nd (nd u).up).l ≠ u ∧ (nd (nd u).up).r ≠ u) := by
        rcases ht with ht | ht
        · exact .inl ht
        · refine .inr ?_
          rw [nk _ ovne.1 ovne.2] at ht
          simp only at ht
          exact ⟨fun z => ht.1 (by rw [if_pos z]), fun z => ht.2 (by rw [if_pos z])⟩
      obtain ⟨a, b⟩ := H.top u ul ut
      rw [Th', a, hS]
      exact ⟨rfl, by rw [← b]; exact (H.mem u ul k (by rw [← hS]; exact H.self k hl)).2.2⟩
    · by_cases k2 : k = u
      · subst k2
        rw [nu] at ht
        simp only at ht
        rw [nh] at ht
        simp only at ht
        rcases ht with z | z
        · exact absurd z h0
        · exact absurd rfl z.1
      · have k0 := H.ne0 lk
        by_cases q : k = (nd h).l
        · have e1 : (rotRN nd h u k).up = u := by rw [nk k k1 k2]; simp only; rw [if_pos ⟨k0, q⟩]
          rw [e1, nu] at ht
          simp only at ht
          rcases ht with z | z
          · exact absurd z u0
          · exact absurd q.symm z.2
        · rw [upk k lk k1 k2 q] at ht ⊢
          rw [Tk' k k1 k2]
          refine H.top k lk ?_
          rcases ht with z | z
          · exact .inl z
          · refine .inr ?_
            by_cases v1 : (nd k).up = h
            · rw [v1, nh] at z; rw [v1]; simp only at z; exact ⟨fun y => q y.symm, z.2⟩
            · by_cases v2 : (nd k).up = u
              · rw [v2, nu] at z; rw [v2]; simp only at z; exact ⟨z.1, by rw [e]; exact fun y => k1 y.symm⟩
              · rw [nk _ v1 v2] at z
                simp only at z
                refine ⟨fun y => z.1 ?_, fun y => z.2 ?_⟩
                · rw [y, if_neg k2]
                · rw [y, if_neg k2]
  · by_cases k1 : k = h
    · subst k1; rw [Th']; exact ndu
    · by_cases k2 : k = u
      · subst k2
        rw [Tu']
        have e3 : T k = (T (nd k).l ++ k :: T (nd h).l) ++ h :: T (nd h).r := by rw [Tu, Th]; simp
        rw [e3] at ndu
        exact (List.nodup_append.1 ndu).1
      · rw [Tk' k k1 k2]; exact H.nodup k lk

end Go.Proofs.Ytffmlffhiimmdaa
