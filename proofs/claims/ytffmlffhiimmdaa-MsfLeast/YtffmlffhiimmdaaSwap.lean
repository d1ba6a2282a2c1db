/- Paths and chains: what hangs below a path's top is exchanged. No program. -/
import Derived.Test.YtffmlffhiimmdaaWay
import Derived.Test.YtffmlffhiimmdaaLc
namespace Go.Proofs.Ytffmlffhiimmdaa
set_option linter.unusedVariables false

variable {live : Nat → Prop} {nd : Nat → Ln} {T S : Nat → List Nat} {P : Nat → Nat}

/-- Paths and chains. -/
def Rc (live : Nat → Prop) (S : Nat → List Nat) (P : Nat → Nat) (R : Nat → List Nat) : Prop :=
  ∀ h, live h → ∀ A x B, S h = A ++ x :: B → R x = (if P h = 0 then [] else R (P h)) ++ A ++ [x]
/-- What stands below a node is of its path. -/
theorem Lc.subT (H : Lc live nd T S P) : ∀ (m h : Nat), (T h).length ≤ m → live h → ∀ k ∈ T h, live k ∧ S k = S h := by
  intro m
  induction m with
  | zero => intro h hm hl k hk; have := H.len hl; omega
  | succ m ih =>
    intro h hm hl k hk
    have hlen := H.len hl
    rcases (H.mem_t hl).1 hk with q | q | q
    · by_cases c0 : (nd h).l = 0
      · rw [c0, H.t0] at q; simp at q
      · obtain ⟨a, b, c⟩ := H.l h hl c0
        obtain ⟨x, y⟩ := ih _ (by omega) a k q
        exact ⟨x, by rw [y, c]⟩
    · rw [q]; exact ⟨hl, rfl⟩
    · by_cases c0 : (nd h).r = 0
      · rw [c0, H.t0] at q; simp at q
      · obtain ⟨a, b, c⟩ := H.r h hl c0
        obtain ⟨x, y⟩ := ih _ (by omega) a k q
        exact ⟨x, by rw [y, c]⟩
theorem Lc.sub (H : Lc live nd T S P) {h k : Nat} (hl : live h) (hk : k ∈ T h) : live k ∧ S k = S h := H.subT _ h (Nat.le_refl _) hl k hk
/-- Below below is below. -/
theorem Lc.belowT (H : Lc live nd T S P) : ∀ (m h : Nat), (T h).length ≤ m → live h → ∀ k ∈ T h, (∀ x ∈ T k, x ∈ T h) ∧ (k ≠ h → (nd k).up ∈ T h ∧ (T k).length < (T h).length) := by
  intro m
  induction m with
  | zero => intro h hm hl k hk; have := H.len hl; omega
  | succ m ih =>
    intro h hm hl k hk
    have hlen := H.len hl
    have side : ∀ c, c ≠ 0 → live c → (nd c).up = h → (T c).length < (T h).length → (∀ x ∈ T c, x ∈ T h) → k ∈ T c → (∀ x ∈ T k, x ∈ T h) ∧ (k ≠ h → (nd k).up ∈ T h ∧ (T k).length < (T h).length) := fun c c0 lc uc ll sub q => by
      obtain ⟨x, y⟩ := ih c (by omega) lc k q
      refine ⟨fun z hz => sub z (x z hz), fun _ => ?_⟩
      by_cases e : k = c
      · rw [e, uc]; exact ⟨H.selfT hl, ll⟩
      · obtain ⟨y1, y2⟩ := y e; exact ⟨sub _ y1, by omega⟩
    rcases (H.mem_t hl).1 hk with q | q | q
    · by_cases c0 : (nd h).l = 0
      · rw [c0, H.t0] at q; simp at q
      · obtain ⟨a, b, c⟩ := H.l h hl c0
        exact side _ c0 a b (by omega) (fun x hx => (H.mem_t hl).2 (.inl hx)) q
    · subst q; exact ⟨fun x hx => hx, fun z => absurd rfl z⟩
    · by_cases c0 : (nd h).r = 0
      · rw [c0, H.t0] at q; simp at q
      · obtain ⟨a, b, c⟩ := H.r h hl c0
        exact side _ c0 a b (by omega) (fun x hx => (H.mem_t hl).2 (.inr (.inr hx))) q
theorem Lc.below (H : Lc live nd T S P) {h k : Nat} (hl : live h) (hk : k ∈ T h) : (∀ x ∈ T k, x ∈ T h) ∧ (k ≠ h → (nd k).up ∈ T h ∧ (T k).length < (T h).length) := H.belowT _ h (Nat.le_refl _) hl k hk
/-- A path has one top. -/
theorem Lc.one (H : Lc live nd T S P) {h k : Nat} (hl : live h) (kl : live k) (th : T h = S h) (tk : T k = S k) (e : S k = S h) : k = h := by
  refine Classical.byContradiction fun q => ?_
  have := ((H.below hl (show k ∈ T h by rw [th, ← e]; exact H.self k kl)).2 q).2
  rw [th, tk, e] at this; omega
theorem lenle {a b : List Nat} (ha : a.Nodup) (h : ∀ x ∈ a, x ∈ b) : a.length ≤ b.length := by
  induction a generalizing b with
  | nil => simp
  | cons x a ih =>
    obtain ⟨P, Q, rfl⟩ := List.append_of_mem (h x (by simp))
    have hn := List.nodup_cons.1 ha
    have := ih (b := P ++ Q) hn.2 (fun y hy => by
      have := h y (List.mem_cons_of_mem _ hy)
      rcases List.mem_append.1 this with q | q
      · exact List.mem_append.2 (.inl q)
      · rcases List.mem_cons.1 q with q | q
        · exact absurd (q ▸ hy) hn.1
        · exact List.mem_append.2 (.inr q))
    simp only [List.length_append, List.length_cons] at this ⊢
    omega
/-- A path's top is nobody's child. -/
theorem Lc.nochild (H : Lc live nd T S P) {h k : Nat} (hl : live h) (kl : live k) (th : T h = S h) : (nd k).l ≠ h ∧ (nd k).r ≠ h := by
  have key : S h = S k → (T h).length < (T k).length → False := fun e l => by
    have := lenle (H.nodup k kl) (b := S k) (fun x hx => by rw [← (H.sub kl hx).2]; exact H.self x (H.sub kl hx).1)
    rw [← e, ← th] at this; omega
  have lk := H.len kl
  constructor
  · intro q
    have := H.l k kl (by rw [q]; exact H.ne0 hl)
    rw [q] at this lk
    exact key this.2.2 (by omega)
  · intro q
    have := H.r k kl (by rw [q]; exact H.ne0 hl)
    rw [q] at this lk
    exact key this.2.2 (by omega)
/-- What a path's top gives up, and takes. -/
def swapN (nd : Nat → Ln) (a b : Nat) : Nat → Ln := fun k => if k = a then ⟨(nd a).up, (nd a).l, b, (nd a).tw⟩ else nd k
def swapT (nd : Nat → Ln) (T : Nat → List Nat) (a b : Nat) : Nat → List Nat := fun k => if k = a then T (nd a).l ++ a :: T b else T k
def swapS (nd : Nat → Ln) (T S : Nat → List Nat) (a b : Nat) : Nat → List Nat := fun k => if k ∈ T (nd a).r then T (nd a).r else if k ∈ T (nd a).l ∨ k = a ∨ k ∈ T b then T (nd a).l ++ a :: T b else S k
def swapP (nd : Nat → Ln) (T : Nat → List Nat) (P : Nat → Nat) (a b : Nat) : Nat → Nat := fun k => if k ∈ T (nd a).r then a else if k ∈ T b then P a else P k

theorem Lc.swap (H : Lc live nd T S P) {R : Nat → List Nat} (hR : Rc live S P R) {a b : Nat} (la : live a) (hta : T a = S a) (hpa : P a = (nd a).up) (tw : (nd a).tw = false) (hb : b = 0 ∨ (live b ∧ T b = S b ∧ (nd b).up = a ∧ P b = a)) :
    Lc live (swapN nd a b) (swapT nd T a b) (swapS nd T S a b) (swapP nd T P a b) := by
  have a0 := H.ne0 la
  have Ta : T a = T (nd a).l ++ a :: T (nd a).r := by rw [H.t a la, if_neg (by simp [tw])]
  have nda := H.nodup a la
  have nd1 := nda
  rw [Ta, List.nodup_append] at nd1
  obtain ⟨ndl, ndr0, ndx⟩ := nd1
  obtain ⟨nar, ndr⟩ := List.nodup_cons.1 ndr0
  have nal : a ∉ T (nd a).l := fun q => ndx a q a (by simp) rfl
  have inA : ∀ k, k ∈ S a ↔ k ∈ T (nd a).l ∨ k = a ∨ k ∈ T (nd a).r := fun k => by rw [← hta, H.mem_t la]
  -- b is of another path
  have bS : ∀ k ∈ T b, live k ∧ S k = T b ∧ S k ≠ S a ∧ P k = a := fun k hk => by
    rcases hb with rfl | ⟨lb, tb, ub, pb⟩
    · rw [H.t0] at hk; simp at hk
    · obtain ⟨x, y⟩ := H.sub lb hk
      have hm := H.mem b lb k (by rw [← tb]; exact hk)
      refine ⟨x, by rw [y, tb], fun q => ?_, by rw [hm.2.2, pb]⟩
      exact H.out b lb (by rw [pb]; exact a0) (by rw [pb, ← q, y])
  have bnot : ∀ k ∈ T b, k ∉ S a := fun k hk q => (bS k hk).2.2.1 (H.mem a la k q).2.1
  have bnd : (T b).Nodup := by
    rcases hb with rfl | ⟨lb, _⟩
    · rw [H.t0]; exact List.nodup_nil
    · exact H.nodup b lb
  have ba : a ∉ T b := fun q => bnot a q (H.self a la)
  have na : swapN nd a b a = ⟨(nd a).up, (nd a).l, b, (nd a).tw⟩ := by unfold swapN; rw [if_pos rfl]
  have nk : ∀ k, k ≠ a → swapN nd a b k = nd k := fun k q => by unfold swapN; rw [if_neg q]
  have nup : ∀ k, (swapN nd a b k).up = (nd k).up := fun k => by
    by_cases q : k = a
    · subst q; rw [na]
    · rw [nk k q]
  have ta : swapT nd T a b a = T (nd a).l ++ a :: T b := by unfold swapT; rw [if_pos rfl]
  have tk : ∀ k, k ≠ a → swapT nd T a b k = T k := fun k q => by unfold swapT; rw [if_neg q]
  have sr : ∀ k, k ∈ T (nd a).r → swapS nd T S a b k = T (nd a).r ∧ swapP nd T P a b k = a := fun k q => by unfold swapS swapP; rw [if_pos q, if_pos q]; exact ⟨rfl, rfl⟩
  have snew : ∀ k, k ∈ T (nd a).l ++ a :: T b → swapS nd T S a b k = T (nd a).l ++ a :: T b ∧ swapP nd T P a b k = P a := fun k q => by
    have q2 : k ∈ T (nd a).l ∨ k = a ∨ k ∈ T b := by simpa using q
    have n1 : k ∉ T (nd a).r := fun z => by
      rcases q2 with y | y | y
      · exact ndx k y k (List.mem_cons_of_mem _ z) rfl
      · rw [y] at z; exact nar z
      · exact bnot k y ((inA k).2 (.inr (.inr z)))
    unfold swapS swapP
    rw [if_neg n1, if_pos q2, if_neg n1]
    refine ⟨rfl, ?_⟩
    by_cases z : k ∈ T b
    · rw [if_pos z]
    · rw [if_neg z]
      exact (H.mem a la k ((inA k).2 (by rcases q2 with y | y | y; exact .inl y; exact .inr (.inl y); exact absurd y z))).2.2
  have sold : ∀ k, k ∉ S a → k ∉ T b → swapS nd T S a b k = S k ∧ swapP nd T P a b k = P k := fun k q1 q2 => by
    rw [inA] at q1
    have n1 : k ∉ T (nd a).r := fun z => q1 (.inr (.inr z))
    unfold swapS swapP
    rw [if_neg n1, if_neg (fun z => by rcases z with y | y | y; exact q1 (.inl y); exact q1 (.inr (.inl y)); exact q2 y), if_neg n1, if_neg q2]
    exact ⟨rfl, rfl⟩
  -- of one path before, of one path behind, but for a's lower side
  have same : ∀ k c, live k → live c → S c = S k → (k ∈ T (nd a).r ↔ c ∈ T (nd a).r) → swapS nd T S a b c = swapS nd T S a b k := fun k c lk lc hs hr => by
    by_cases q : k ∈ T (nd a).r
    · rw [(sr k q).1, (sr c (hr.1 q)).1]
    · have qc : c ∉ T (nd a).r := fun z => q (hr.2 z)
      by_cases z : k ∈ S a
      · have zc : c ∈ S a := by rw [← (H.mem a la k z).2.1, ← hs]; exact H.self c lc
        have m1 : k ∈ T (nd a).l ++ a :: T b := by rcases (inA k).1 z with y | y | y; simp [y]; simp [y]; exact absurd y q
        have m2 : c ∈ T (nd a).l ++ a :: T b := by rcases (inA c).1 zc with y | y | y; simp [y]; simp [y]; exact absurd y qc
        rw [(snew k m1).1, (snew c m2).1]
      · have zc : c ∉ S a := fun y => z (by rw [← (H.mem a la c y).2.1, hs]; exact H.self k lk)
        by_cases y : k ∈ T b
        · have yc : c ∈ T b := by rw [← (bS k y).2.1, ← hs]; exact H.self c lc
          rw [(snew k (by simp [y])).1, (snew c (by simp [yc])).1]
        · have yc : c ∉ T b := fun x => y (by rw [← (bS c x).2.1, hs]; exact H.self k lk)
          rw [(sold k z y).1, (sold c zc yc).1, hs]
  have noch := fun k lk => H.nochild la (k := k) lk hta
  have bna : b ≠ a := fun q => by
    rcases hb with z | ⟨lb, _⟩
    · rw [z] at q; exact a0 q.symm
    · exact ba (by rw [← q]; exact H.selfT lb)
  have chld : ∀ k c, live k → k ≠ a → live c → (nd c).up = k → S c = S k → c ∈ T k → swapS nd T S a b c = swapS nd T S a b k := fun k c lk ka lc uc sc hc => by
    refine same k c lk lc sc ⟨fun q => ?_, fun q => ?_⟩
    · by_cases r0 : (nd a).r = 0
      · rw [r0, H.t0] at q; simp at q
      · exact (H.below (H.r a la r0).1 q).1 c hc
    · by_cases r0 : (nd a).r = 0
      · rw [r0, H.t0] at q; simp at q
      · have hne : c ≠ (nd a).r := fun z => ka (by rw [← uc, z]; exact (H.r a la r0).2.1)
        have := ((H.below (H.r a la r0).1 q).2 hne).1
        rw [uc] at this; exact this
  have newA : ∀ k, k ∈ T (nd a).l ++ a :: T b ↔ k ∈ T (nd a).l ∨ k = a ∨ k ∈ T b := fun k => by simp
  -- where a node stands
  have cases3 : ∀ k, live k → k ∈ T (nd a).r ∨ k ∈ T (nd a).l ++ a :: T b ∨ (k ∉ S a ∧ k ∉ T b) := fun k lk => by
    by_cases q : k ∈ T (nd a).r
    · exact .inl q
    · by_cases z : k ∈ T (nd a).l ++ a :: T b
      · exact .inr (.inl z)
      · refine .inr (.inr ⟨fun y => ?_, fun y => z ((newA k).2 (.inr (.inr y)))⟩)
        rcases (inA k).1 y with x | x | x
        · exact z ((newA k).2 (.inl x))
        · exact z ((newA k).2 (.inr (.inl x)))
        · exact q x
  have rlive : ∀ k ∈ T (nd a).r, live k ∧ k ∈ S a := fun k q => by
    have m : k ∈ S a := (inA k).2 (.inr (.inr q))
    exact ⟨(H.mem a la k m).1, m⟩
  refine ⟨H.nz, ?_, fun k lk => ?_, fun k lk h0 => ?_, fun k lk h0 => ?_, fun k lk h0 => ?_, fun k lk ht => ?_, fun k lk => ?_, fun k lk => ?_, fun k lk x hx => ?_, fun k lk hp => ?_, fun k lk hp => ?_⟩
  · rw [tk 0 a0.symm]; exact H.t0
  · by_cases q : k = a
    · subst q
      rw [na, ta]
      simp only [tw, Bool.false_eq_true, if_false]
      rw [tk _ (H.ne_l la), tk _ bna]
    · rw [nk k q, tk k q, tk _ (noch k lk).1, tk _ (noch k lk).2]; exact H.t k lk
  · by_cases q : k = a
    · subst q
      rw [na] at h0 ⊢
      simp only at h0 ⊢
      obtain ⟨x, y, z⟩ := H.l k la h0
      rw [nup]
      exact ⟨x, y, by rw [(snew _ (by simp [H.selfT x])).1, (snew k (by simp)).1]⟩
    · rw [nk k q] at h0 ⊢
      obtain ⟨x, y, z⟩ := H.l k lk h0
      rw [nup]
      exact ⟨x, y, chld k _ lk q x y z ((H.mem_t lk).2 (.inl (H.selfT x)))⟩
  · by_cases q : k = a
    · subst q
      rw [na] at h0 ⊢
      simp only at h0 ⊢
      rcases hb with z | ⟨lb, tb, ub, pb⟩
      · exact absurd z h0
      · rw [nup]
        exact ⟨lb, ub, by rw [(snew b (by simp [H.selfT lb])).1, (snew k (by simp)).1]⟩
    · rw [nk k q] at h0 ⊢
      obtain ⟨x, y, z⟩ := H.r k lk h0
      rw [nup]
      exact ⟨x, y, chld k _ lk q x y z ((H.mem_t lk).2 (.inr (.inr (H.selfT x))))⟩
  · rw [nup] at h0 ⊢; exact H.u k lk h0
  · rw [nup] at ht ⊢
    by_cases q : k = a
    · subst q
      rw [ta, (snew k (by simp)).1, (snew k (by simp)).2]
      exact ⟨rfl, hpa⟩
    · rw [tk k q]
      by_cases r1 : k = (nd a).r
      · have m : k ∈ T (nd a).r := by rw [← r1]; exact H.selfT lk
        rw [(sr k m).1, (sr k m).2, r1]
        exact ⟨rfl, (H.r a la (by rw [← r1]; exact H.ne0 lk)).2.1.symm⟩
      · have ht2 : (nd k).up = 0 ∨ ((nd (nd k).up).l ≠ k ∧ (nd (nd k).up).r ≠ k) := by
          rcases ht with z | z
          · exact .inl z
          · refine .inr ?_
            by_cases v : (nd k).up = a
            · rw [v, na] at z; rw [v]; exact ⟨z.1, fun y => r1 y.symm⟩
            · rw [nk _ v] at z; exact z
        obtain ⟨x, y⟩ := H.top k lk ht2
        have kS : k ∉ S a := fun z => q (H.one la lk hta x (H.mem a la k z).2.1)
        have kb : k ∉ T b := fun z => by
          rcases hb with w | ⟨lb, tb, ub, pb⟩
          · rw [w, H.t0] at z; simp at z
          · have e : k = b := H.one lb lk tb x (by rw [(bS k z).2.1, tb])
            rw [e, ub] at ht
            rcases ht with w | w
            · exact a0 w
            · rw [na] at w; exact w.2 rfl
        rw [(sold k kS kb).1, (sold k kS kb).2]
        exact ⟨x, y⟩
  · by_cases q : k = a
    · subst q
      rw [ta, List.nodup_append]
      refine ⟨ndl, List.nodup_cons.2 ⟨ba, bnd⟩, fun x hx y hy e => ?_⟩
      subst e
      rcases List.mem_cons.1 hy with z | z
      · rw [z] at hx; exact nal hx
      · exact bnot x z ((inA x).2 (.inl hx))
    · rw [tk k q]; exact H.nodup k lk
  · rcases cases3 k lk with q | q | q
    · rw [(sr k q).1]; exact q
    · rw [(snew k q).1]; exact q
    · rw [(sold k q.1 q.2).1]; exact H.self k lk
  · rcases cases3 k lk with q | q | q
    · rw [(sr k q).1] at hx ⊢
      rw [(sr k q).2, (sr x hx).1, (sr x hx).2]
      exact ⟨(rlive x hx).1, rfl, rfl⟩
    · rw [(snew k q).1] at hx ⊢
      rw [(snew k q).2, (snew x hx).1, (snew x hx).2]
      refine ⟨?_, rfl, rfl⟩
      rcases (newA x).1 hx with z | z | z
      · exact (H.mem a la x ((inA x).2 (.inl z))).1
      · rw [z]; exact la
      · exact (bS x z).1
    · rw [(sold k q.1 q.2).1] at hx ⊢
      obtain ⟨y1, y2, y3⟩ := H.mem k lk x hx
      have x1 : x ∉ S a := fun z => q.1 (by rw [← (H.mem a la x z).2.1, y2]; exact H.self k lk)
      have x2 : x ∉ T b := fun z => q.2 (by rw [← (bS x z).2.1, y2]; exact H.self k lk)
      rw [(sold x x1 x2).1, (sold x x1 x2).2, (sold k q.1 q.2).2]
      exact ⟨y1, y2, y3⟩
  · rcases cases3 k lk with q | q | q
    · rw [(sr k q).1, (sr k q).2, (snew a (by simp)).1]
      intro e
      have : a ∈ T (nd a).r := by rw [← e]; simp
      exact nar this
    · rw [(snew k q).2] at hp ⊢
      rw [(snew k q).1]
      have hP := H.out a la hp
      have lP : live (P a) := by rw [hpa] at hp ⊢; exact H.u a la hp
      have p1 : P a ∉ S a := fun z => hP (H.mem a la _ z).2.1
      by_cases p2 : P a ∈ T b
      · exfalso
        obtain ⟨A, B, eA⟩ := List.append_of_mem (H.self a la)
        have r1 := hR a la A a B eA
        rw [if_neg hp] at r1
        rcases hb with w | ⟨lb, tb, ub, pb⟩
        · rw [w, H.t0] at p2; simp at p2
        · obtain ⟨A2, B2, eB⟩ := List.append_of_mem p2
          have r2 := hR b lb A2 (P a) B2 (by rw [← tb]; exact eB)
          rw [pb, if_neg a0] at r2
          have l1 := congrArg List.length r1
          have l2 := congrArg List.length r2
          simp only [List.length_append, List.length_cons, List.length_nil] at l1 l2
          omega
      · rw [(sold _ p1 p2).1]
        intro e
        exact hP (by
          have : a ∈ S (P a) := by rw [e]; simp
          exact ((H.mem _ lP a this).2.1).symm)
    · rw [(sold k q.1 q.2).2] at hp ⊢
      rw [(sold k q.1 q.2).1]
      have hP := H.out k lk hp
      have kin : ∀ X : List Nat, k ∉ X → X ≠ S k := fun X hX e => hX (by rw [e]; exact H.self k lk)
      rcases cases3 (P k) (H.pl k lk hp) with z | z | z
      · rw [(sr _ z).1]
        exact kin _ (fun y => q.1 ((inA k).2 (.inr (.inr y))))
      · rw [(snew _ z).1]
        refine kin _ (fun y => ?_)
        rcases (newA k).1 y with w | w | w
        · exact q.1 ((inA k).2 (.inl w))
        · exact q.1 ((inA k).2 (.inr (.inl w)))
        · exact q.2 w
      · rw [(sold _ z.1 z.2).1]; exact hP
  · rcases cases3 k lk with q | q | q
    · rw [(sr k q).2]; exact la
    · rw [(snew k q).2] at hp ⊢; exact H.pl a la hp
    · rw [(sold k q.1 q.2).2] at hp ⊢; exact H.pl k lk hp
/-- Chains stay. -/
theorem Rc.swap (H : Lc live nd T S P) {R : Nat → List Nat} (hR : Rc live S P R) {a b : Nat} (la : live a) (hta : T a = S a) (tw : (nd a).tw = false) (hb : b = 0 ∨ (live b ∧ T b = S b ∧ (nd b).up = a ∧ P b = a)) :
    (∀ A x B, T (nd a).r = A ++ x :: B → R x = R a ++ A ++ [x]) ∧ (∀ A x B, T (nd a).l ++ a :: T b = A ++ x :: B → R x = (if P a = 0 then [] else R (P a)) ++ A ++ [x]) := by
  have a0 := H.ne0 la
  have Ta : T a = T (nd a).l ++ a :: T (nd a).r := by rw [H.t a la, if_neg (by simp [tw])]
  have hRa := hR a la
  rw [← hta, Ta] at hRa
  have ra := hRa (T (nd a).l) a (T (nd a).r) rfl
  refine ⟨fun A x B e => ?_, fun A x B e => ?_⟩
  · have := hRa (T (nd a).l ++ a :: A) x B (by rw [e]; simp)
    rw [this, ra]; simp
  · rcases List.append_eq_append_iff.1 e with ⟨u, e1, e2⟩ | ⟨u, e1, e2⟩
    · cases u with
      | nil =>
        simp only [List.append_nil] at e1
        simp only [List.nil_append, List.cons.injEq] at e2
        rw [e1, ← e2.1]; exact ra
      | cons z u =>
        simp only [List.cons_append, List.cons.injEq] at e2
        obtain ⟨rfl, e2⟩ := e2
        rcases hb with w | ⟨lb, tb, ub, pb⟩
        · rw [w, H.t0] at e2; simp at e2
        · have r2 := hR b lb u x B (by rw [← tb]; exact e2)
          rw [pb, if_neg a0] at r2
          rw [r2, ra, e1]; simp
    · cases u with
      | nil =>
        simp only [List.append_nil] at e1
        simp only [List.nil_append, List.cons.injEq] at e2
        rw [← e1, e2.1]; exact ra
      | cons z u =>
        simp only [List.cons_append, List.cons.injEq] at e2
        obtain ⟨rfl, e2⟩ := e2
        exact hRa A x (u ++ a :: T (nd a).r) (by rw [e1]; simp)

end Go.Proofs.Ytffmlffhiimmdaa
