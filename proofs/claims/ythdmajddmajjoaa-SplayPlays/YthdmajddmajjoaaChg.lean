/- What joining, cutting, making, freeing and setting make of trees. No program. -/
import Derived.Test.YthdmajddmajjoaaFo
namespace Go.Proofs.Ythdmajddmajjoaa
open Go.ChangeShapes Go.WideShapes Go.ChangeAt Go.RowKit
set_option linter.unusedVariables false

variable {live : Nat → Prop} {N : Nat} {nd nd' : Nat → Nd} {T T' S : Nat → List Nat}

/-- Of two sequences one. -/
def joinS (S : Nat → List Nat) (a b : Nat) : Nat → List Nat := fun k => if k ∈ S a ∨ k ∈ S b then S a ++ S b else S k
/-- What stands ahead of h is a sequence by itself. -/
def splitS (S : Nat → List Nat) (A : List Nat) (h : Nat) (B : List Nat) : Nat → List Nat := fun k => if k ∈ A then A else if k ∈ h :: B then h :: B else S k

theorem Tr.apart (H : Tr live N nd T S) {a b : Nat} (ha : live a) (hb : live b) (hne : S a ≠ S b) {k : Nat} (h1 : k ∈ S a) : k ∉ S b := fun h2 => hne ((H.mem a ha k h1).2.symm.trans (H.mem b hb k h2).2)

theorem Tr.join (H : Tr live N nd T S) {a b : Nat} (ha : live a) (hb : live b) (ua : (nd a).up = 0) (ub : (nd b).up = 0) (ra : (nd a).r = 0) (hne : S a ≠ S b) (s : Nat) (g : Ag)
    (es : s = (S a).length + (S b).length) (eg : g = agg ((S a ++ S b).map fun k => (nd k).it)) :
    Tr live N (upd (hangN nd a 1 b) a ((hangN nd a 1 b a).setSum s g)) (upd T a (S a ++ S b)) (joinS S a b) := by
  have a0 := H.ne0 ha
  have b0 := H.ne0 hb
  have hab : a ≠ b := fun e => hne (by rw [e])
  have Ta := H.root a ha ua
  have Tb := H.root b hb ub
  have nl : ∀ k, live k → (nd k).l ≠ a := fun k lk e => by
    have := (H.l k lk (by rw [e]; exact a0)).2
    rw [e, ua] at this
    exact H.ne0 lk this.symm
  have nr : ∀ k, live k → (nd k).r ≠ a := fun k lk e => by
    have := (H.r k lk (by rw [e]; exact a0)).2
    rw [e, ua] at this
    exact H.ne0 lk this.symm
  have el : ∀ k, (upd (hangN nd a 1 b) a ((hangN nd a 1 b a).setSum s g) k).l = (nd k).l := fun k => by
    by_cases e : k = a
    · subst e; rw [upd_same]; show (hangN nd k 1 b k).l = _; rw [hangN_l]; simp
    · rw [upd_other _ _ e, hangN_l]; simp
  have er : ∀ k, (upd (hangN nd a 1 b) a ((hangN nd a 1 b a).setSum s g) k).r = if k = a then b else (nd k).r := fun k => by
    by_cases e : k = a
    · subst e; rw [upd_same]; show (hangN nd k 1 b k).r = _; rw [hangN_r]; simp
    · rw [upd_other _ _ e, hangN_r]; simp [e]
  have eu : ∀ k, (upd (hangN nd a 1 b) a ((hangN nd a 1 b a).setSum s g) k).up = if k = b then a else (nd k).up := fun k => by
    by_cases e : k = a
    · subst e; rw [upd_same]; show (hangN nd k 1 b k).up = _; rw [hangN_up]; simp [b0]
    · rw [upd_other _ _ e, hangN_up]; simp [b0]
  have ei : ∀ k, (upd (hangN nd a 1 b) a ((hangN nd a 1 b a).setSum s g) k).it = (nd k).it := fun k => by
    by_cases e : k = a
    · subst e; rw [upd_same]; exact (hangN_rest ..).1
    · rw [upd_other _ _ e]; exact (hangN_rest ..).1
  have no : (S a ++ S b).Nodup := List.nodup_append.2 ⟨H.nodupSeq ha, H.nodupSeq hb, fun x hx y hy e => H.apart ha hb hne hx (e ▸ hy)⟩
  have jn : ∀ k, k ∈ S a ∨ k ∈ S b → joinS S a b k = S a ++ S b := fun k hk => if_pos hk
  have jo : ∀ k, ¬ (k ∈ S a ∨ k ∈ S b) → joinS S a b k = S k := fun k hk => if_neg hk
  have inS : ∀ k, live k → ∀ c, live c → S k = S c → (k ∈ S a ∨ k ∈ S b ↔ c ∈ S a ∨ c ∈ S b) := fun k lk c lc e => by
    have f : ∀ x y z, live x → live y → live z → S x = S y → x ∈ S z → y ∈ S z := fun x y z lx ly lz e hx => by
      rw [← (H.mem z lz x hx).2, e]; exact H.self y ly
    constructor
    · rintro (h | h)
      · exact .inl (f k c a lk lc ha e h)
      · exact .inr (f k c b lk lc hb e h)
    · rintro (h | h)
      · exact .inl (f c k a lc lk ha e.symm h)
      · exact .inr (f c k b lc lk hb e.symm h)
  have js : ∀ k, live k → ∀ c, live c → S k = S c → joinS S a b k = joinS S a b c := fun k lk c lc e => by
    unfold joinS
    by_cases h : k ∈ S a ∨ k ∈ S b
    · rw [if_pos h, if_pos ((inS k lk c lc e).1 h)]
    · rw [if_neg h, if_neg (fun x => h ((inS k lk c lc e).2 x)), e]
  constructor
  · exact H.nz
  · exact H.top
  · rw [upd_other _ _ (Ne.symm a0)]; exact H.t0
  · intro k lk
    rw [el, er]
    by_cases e : k = a
    · subst e
      rw [if_pos rfl, upd_same, upd_other _ _ (nl k lk), upd_other _ _ (Ne.symm hab), ← Ta, ← Tb, H.t k lk, ra, H.t0]
      simp
    · rw [if_neg e, upd_other _ _ e, upd_other _ _ (nl k lk), upd_other _ _ (nr k lk)]; exact H.t k lk
  · intro k lk
    rw [el]
    intro hn
    obtain ⟨p1, p2⟩ := H.l k lk hn
    refine ⟨p1, ?_⟩
    rw [eu, if_neg]
    · exact p2
    · intro e; rw [e, ub] at p2; exact H.ne0 lk p2.symm
  · intro k lk
    rw [er]
    by_cases e : k = a
    · subst e
      rw [if_pos rfl]
      intro _
      exact ⟨hb, by rw [eu, if_pos rfl]⟩
    · rw [if_neg e]
      intro hn
      obtain ⟨p1, p2⟩ := H.r k lk hn
      refine ⟨p1, ?_⟩
      rw [eu, if_neg]
      · exact p2
      · intro e; rw [e, ub] at p2; exact H.ne0 lk p2.symm
  · intro k lk
    rw [eu]
    by_cases e : k = b
    · subst e
      rw [if_pos rfl]
      intro _
      refine ⟨ha, ?_, .inr (by rw [er, if_pos rfl])⟩
      rw [jn a (.inl (H.self a ha)), jn k (.inr (H.self k lk))]
    · rw [if_neg e]
      intro hn
      obtain ⟨p1, p2, p3⟩ := H.u k lk hn
      refine ⟨p1, js _ p1 _ lk p2, ?_⟩
      rw [el, er]
      rcases p3 with p3 | p3
      · exact .inl p3
      · right
        rw [if_neg]
        · exact p3
        · intro x; rw [x, ra] at p3; exact H.ne0 lk p3.symm
  · intro k lk
    rw [eu]
    by_cases e : k = b
    · rw [if_pos e]; intro x; exact absurd x a0
    · rw [if_neg e]
      intro hn
      by_cases e2 : k = a
      · subst e2; rw [upd_same, jn k (.inl (H.self k lk))]
      · rw [upd_other _ _ e2, jo]
        · exact H.root k lk hn
        · rintro (h | h)
          · exact e2 (H.one_top lk ha hn ua (H.mem a ha k h).2)
          · exact e (H.one_top lk hb hn ub (H.mem b hb k h).2)
  · intro k lk
    by_cases e : k = a
    · subst e; rw [upd_same, upd_same]; show s = _; rw [es]; simp
    · rw [upd_other _ _ e, upd_other _ _ e, (hangN_rest ..).2.1]; exact H.sz k lk
  · intro k lk
    have : ∀ l : List Nat, (l.map fun j => (upd (hangN nd a 1 b) a ((hangN nd a 1 b a).setSum s g) j).it) = l.map fun j => (nd j).it := fun l => List.map_congr_left (fun j _ => ei j)
    rw [this]
    by_cases e : k = a
    · subst e; rw [upd_same, upd_same]; exact eg
    · rw [upd_other _ _ e, upd_other _ _ e, (hangN_rest ..).2.2]; exact H.ag k lk
  · intro k lk
    by_cases e : k = a
    · subst e; rw [upd_same]; exact no
    · rw [upd_other _ _ e]; exact H.nodup k lk
  · intro k lk
    unfold joinS
    split
    · next h => simp [h]
    · exact H.self k lk
  · intro k lk j hj
    by_cases h : k ∈ S a ∨ k ∈ S b
    · rw [jn k h] at hj ⊢
      rcases List.mem_append.1 hj with hj | hj
      · exact ⟨(H.mem a ha j hj).1, jn j (.inl hj)⟩
      · exact ⟨(H.mem b hb j hj).1, jn j (.inr hj)⟩
    · rw [jo k h] at hj
      obtain ⟨q1, q2⟩ := H.mem k lk j hj
      exact ⟨q1, js j q1 k lk q2⟩
  · intro k lk; rw [ei]; exact H.may k lk

def cutN (nd : Nat → Nd) (h l s : Nat) (g : Ag) : Nat → Nd := upd (upd (upd nd l ((nd l).setUp 0)) h (((upd nd l ((nd l).setUp 0)) h).setCh 0 0)) h ((((upd nd l ((nd l).setUp 0)) h).setCh 0 0).setSum s g)
theorem Tr.split (H : Tr live N nd T S) {h l : Nat} (hh : live h) (uh : (nd h).up = 0) (el0 : (nd h).l = l) (l0 : l ≠ 0) (s : Nat) (g : Ag)
    (es : s = (h :: T (nd h).r).length) (eg : g = agg ((h :: T (nd h).r).map fun k => (nd k).it)) :
    Tr live N (cutN nd h l s g) (upd T h (h :: T (nd h).r)) (splitS S (T l) h (T (nd h).r)) := by
  obtain ⟨hl, ul⟩ := H.l h hh (by rw [el0]; exact l0)
  rw [el0] at hl ul
  have h0 := H.ne0 hh
  have Th := H.t h hh
  have lenh := H.len hh
  rw [el0] at Th lenh
  have hlh : l ≠ h := fun e => by rw [e] at lenh; omega
  have Sh := H.root h hh uh
  have noh := H.nodup h hh
  have noL : (T l).Nodup := H.nodup l hl
  have noR : (h :: T (nd h).r).Nodup := by rw [Th] at noh; exact (List.nodup_append.1 noh).2.1
  have ap : ∀ k, k ∈ T l → k ∉ h :: T (nd h).r := fun k h1 h2 => by
    rw [Th] at noh
    exact (List.nodup_append.1 noh).2.2 k h1 k h2 rfl
  have memS : ∀ k, k ∈ S h ↔ k ∈ T l ∨ k ∈ h :: T (nd h).r := fun k => by rw [← Sh, Th, List.mem_append]
  have nl : ∀ k, live k → (nd k).l ≠ h := fun k lk e => by
    have := (H.l k lk (by rw [e]; exact h0)).2
    rw [e, uh] at this
    exact H.ne0 lk this.symm
  have nr : ∀ k, live k → (nd k).r ≠ h := fun k lk e => by
    have := (H.r k lk (by rw [e]; exact h0)).2
    rw [e, uh] at this
    exact H.ne0 lk this.symm
  have el : ∀ k, (cutN nd h l s g k).l = if k = h then 0 else (nd k).l := fun k => by
    unfold cutN
    by_cases e : k = h
    · subst e; rw [upd_same, if_pos rfl]; rfl
    · rw [upd_other _ _ e, upd_other _ _ e, if_neg e]
      by_cases e2 : k = l
      · subst e2; rw [upd_same]; rfl
      · rw [upd_other _ _ e2]
  have er : ∀ k, (cutN nd h l s g k).r = (nd k).r := fun k => by
    unfold cutN
    by_cases e : k = h
    · subst e; rw [upd_same, upd_other _ _ (Ne.symm hlh)]; rfl
    · rw [upd_other _ _ e, upd_other _ _ e]
      by_cases e2 : k = l
      · subst e2; rw [upd_same]; rfl
      · rw [upd_other _ _ e2]
  have eu : ∀ k, (cutN nd h l s g k).up = if k = l then 0 else (nd k).up := fun k => by
    unfold cutN
    by_cases e : k = h
    · subst e; rw [upd_same, upd_other _ _ (Ne.symm hlh), if_neg (Ne.symm hlh)]; rfl
    · rw [upd_other _ _ e, upd_other _ _ e]
      by_cases e2 : k = l
      · subst e2; rw [upd_same, if_pos rfl]; rfl
      · rw [upd_other _ _ e2, if_neg e2]
  have ei : ∀ k, (cutN nd h l s g k).it = (nd k).it := fun k => by
    unfold cutN
    by_cases e : k = h
    · subst e; rw [upd_same, upd_other _ _ (Ne.symm hlh)]; rfl
    · rw [upd_other _ _ e, upd_other _ _ e]
      by_cases e2 : k = l
      · subst e2; rw [upd_same]; rfl
      · rw [upd_other _ _ e2]
  have esz : ∀ k, k ≠ h → (cutN nd h l s g k).size = (nd k).size ∧ (cutN nd h l s g k).ag = (nd k).ag := fun k e => by
    unfold cutN
    rw [upd_other _ _ e, upd_other _ _ e]
    by_cases e2 : k = l
    · subst e2; rw [upd_same]; exact ⟨rfl, rfl⟩
    · rw [upd_other _ _ e2]; exact ⟨rfl, rfl⟩
  have s1 : ∀ k, k ∈ T l → splitS S (T l) h (T (nd h).r) k = T l := fun k hk => if_pos hk
  have s2 : ∀ k, k ∈ h :: T (nd h).r → splitS S (T l) h (T (nd h).r) k = h :: T (nd h).r := fun k hk => by
    unfold splitS; rw [if_neg (fun x => ap k x hk), if_pos hk]
  have s3 : ∀ k, k ∉ S h → splitS S (T l) h (T (nd h).r) k = S k := fun k hk => by
    unfold splitS; rw [if_neg (fun x => hk ((memS k).2 (.inl x))), if_neg (fun x => hk ((memS k).2 (.inr x)))]
  -- what hangs on a node of one side is of that side
  have chL : ∀ k, k ∈ T l → k ≠ l → live k → (nd k).up ∈ T l := fun k hk hkl lk => by
    have hu := H.up_ne _ l (Nat.le_refl _) hl k hk hkl
    obtain ⟨p1, p2, p3⟩ := H.u k lk hu
    have hkS : k ∈ S h := (memS k).2 (.inl hk)
    have huS : (nd k).up ∈ S h := by rw [← (H.mem h hh k hkS).2, ← p2]; exact H.self _ p1
    rcases (memS _).1 huS with h1 | h1
    · exact h1
    · exfalso
      have kin : k ∈ T (nd k).up := by
        rw [H.t _ p1]
        have kk : k ∈ T k := by rw [H.t k lk]; simp
        rcases p3 with p3 | p3
        · rw [p3]; simp [kk]
        · rw [p3]; simp [kk]
      rcases List.mem_cons.1 h1 with h1 | h1
      · rw [h1] at p3
        rcases p3 with p3 | p3
        · exact hkl (p3.symm.trans el0)
        · have kk : k ∈ T k := by rw [H.t k lk]; simp
          rw [p3] at ap
          exact ap k hk (List.mem_cons_of_mem _ kk)
      · -- up k is in T r: so is k
        have r0 : (nd h).r ≠ 0 := fun e => by rw [e, H.t0] at h1; simp at h1
        obtain ⟨lr, _⟩ := H.r h hh r0
        have sub : ∀ (m c : Nat), (T c).length ≤ m → live c → (nd k).up ∈ T c → k ∈ T c := by
          intro m
          induction m with
          | zero => intro c hc lc; have := H.len lc; omega
          | succ m ih =>
            intro c hc lc hx
            have hlen := H.len lc
            rw [H.t c lc] at hx ⊢
            rcases List.mem_append.1 hx with hx | hx
            · by_cases c0 : (nd c).l = 0
              · rw [c0, H.t0] at hx; simp at hx
              · exact List.mem_append_left _ (ih _ (by omega) (H.l c lc c0).1 hx)
            · rcases List.mem_cons.1 hx with hx | hx
              · have kk : k ∈ T k := by rw [H.t k lk]; simp
                rw [hx] at p3
                rcases p3 with p3 | p3
                · rw [p3]; simp [kk]
                · rw [p3]; simp [kk]
              · by_cases c0 : (nd c).r = 0
                · rw [c0, H.t0] at hx; simp at hx
                · exact List.mem_append_right _ (List.mem_cons_of_mem _ (ih _ (by omega) (H.r c lc c0).1 hx))
        exact ap k hk (List.mem_cons_of_mem _ (sub _ _ (Nat.le_refl _) lr h1))
  have chR : ∀ k, k ∈ h :: T (nd h).r → k ≠ h → live k → (nd k).up ∈ h :: T (nd h).r := fun k hk hkh lk => by
    have hkS : k ∈ S h := (memS k).2 (.inr hk)
    have hkT : k ∈ T h := by rw [Sh]; exact hkS
    have hu := H.up_ne _ h (Nat.le_refl _) hh k hkT hkh
    obtain ⟨p1, p2, p3⟩ := H.u k lk hu
    have huS : (nd k).up ∈ S h := by rw [← (H.mem h hh k hkS).2, ← p2]; exact H.self _ p1
    rcases (memS _).1 huS with h1 | h1
    · exfalso
      have sub : ∀ (m c : Nat), (T c).length ≤ m → live c → (nd k).up ∈ T c → k ∈ T c := by
        intro m
        induction m with
        | zero => intro c hc lc; have := H.len lc; omega
        | succ m ih =>
          intro c hc lc hx
          have hlen := H.len lc
          rw [H.t c lc] at hx ⊢
          rcases List.mem_append.1 hx with hx | hx
          · by_cases c0 : (nd c).l = 0
            · rw [c0, H.t0] at hx; simp at hx
            · exact List.mem_append_left _ (ih _ (by omega) (H.l c lc c0).1 hx)
          · rcases List.mem_cons.1 hx with hx | hx
            · have kk : k ∈ T k := by rw [H.t k lk]; simp
              rw [hx] at p3
              rcases p3 with p3 | p3
              · rw [p3]; simp [kk]
              · rw [p3]; simp [kk]
            · by_cases c0 : (nd c).r = 0
              · rw [c0, H.t0] at hx; simp at hx
              · exact List.mem_append_right _ (List.mem_cons_of_mem _ (ih _ (by omega) (H.r c lc c0).1 hx))
      exact ap k (sub _ _ (Nat.le_refl _) hl h1) hk
    · exact h1
  constructor
  · exact H.nz
  · exact H.top
  · rw [upd_other _ _ (Ne.symm h0)]; exact H.t0
  · intro k lk
    rw [el, er]
    by_cases e : k = h
    · subst e
      rw [if_pos rfl, upd_same, upd_other _ _ (Ne.symm h0), upd_other _ _ (nr k lk), H.t0]
      simp
    · rw [if_neg e, upd_other _ _ e, upd_other _ _ (nl k lk), upd_other _ _ (nr k lk)]; exact H.t k lk
  · intro k lk
    rw [el]
    by_cases e : k = h
    · rw [if_pos e]; intro x; exact absurd rfl x
    · rw [if_neg e]
      intro hn
      obtain ⟨p1, p2⟩ := H.l k lk hn
      refine ⟨p1, ?_⟩
      rw [eu, if_neg]
      · exact p2
      · intro x; rw [x, ul] at p2; exact e p2.symm
  · intro k lk
    rw [er]
    intro hn
    obtain ⟨p1, p2⟩ := H.r k lk hn
    refine ⟨p1, ?_⟩
    rw [eu, if_neg]
    · exact p2
    · intro x
      rw [x, ul] at p2
      rw [← p2] at x
      exact H.lr hh (by rw [el0]; exact l0) (el0.trans x.symm)
  · intro k lk
    rw [eu]
    by_cases e : k = l
    · rw [if_pos e]; intro x; exact absurd rfl x
    · rw [if_neg e]
      intro hn
      obtain ⟨p1, p2, p3⟩ := H.u k lk hn
      refine ⟨p1, ?_, ?_⟩
      · by_cases hk : k ∈ S h
        · rcases (memS k).1 hk with h1 | h1
          · rw [s1 k h1, s1 _ (chL k h1 e lk)]
          · have kh : k ≠ h := fun x => hn (by rw [x]; exact uh)
            rw [s2 k h1, s2 _ (chR k h1 kh lk)]
        · have hk2 : (nd k).up ∉ S h := fun x => hk (by
            rw [← (H.mem h hh _ x).2, p2]; exact H.self k lk)
          rw [s3 k hk, s3 _ hk2, p2]
      · rw [el, er]
        rcases p3 with p3 | p3
        · left
          rw [if_neg]
          · exact p3
          · intro x; rw [x, el0] at p3; exact e p3.symm
        · exact .inr p3
  · intro k lk
    rw [eu]
    by_cases e : k = l
    · subst e
      intro _
      rw [upd_other _ _ hlh, s1 k (by rw [H.t k lk]; simp)]
    · rw [if_neg e]
      intro hn
      by_cases e2 : k = h
      · subst e2; rw [upd_same, s2 k (by simp)]
      · rw [upd_other _ _ e2, s3]
        · exact H.root k lk hn
        · intro x; exact e2 (H.one_top lk hh hn uh (H.mem h hh k x).2)
  · intro k lk
    by_cases e : k = h
    · subst e; unfold cutN; rw [upd_same, upd_same]; exact es
    · rw [(esz k e).1, upd_other _ _ e]; exact H.sz k lk
  · intro k lk
    have : ∀ l' : List Nat, (l'.map fun j => (cutN nd h l s g j).it) = l'.map fun j => (nd j).it := fun l' => List.map_congr_left (fun j _ => ei j)
    rw [this]
    by_cases e : k = h
    · subst e; rw [upd_same]; unfold cutN; rw [upd_same]; exact eg
    · rw [(esz k e).2, upd_other _ _ e]; exact H.ag k lk
  · intro k lk
    by_cases e : k = h
    · subst e; rw [upd_same]; exact noR
    · rw [upd_other _ _ e]; exact H.nodup k lk
  · intro k lk
    by_cases hk : k ∈ S h
    · rcases (memS k).1 hk with h1 | h1
      · rw [s1 k h1]; exact h1
      · rw [s2 k h1]; exact h1
    · rw [s3 k hk]; exact H.self k lk
  · intro k lk j hj
    by_cases hk : k ∈ S h
    · rcases (memS k).1 hk with h1 | h1
      · rw [s1 k h1] at hj ⊢
        exact ⟨(H.mem h hh j ((memS j).2 (.inl hj))).1, s1 j hj⟩
      · rw [s2 k h1] at hj ⊢
        exact ⟨(H.mem h hh j ((memS j).2 (.inr hj))).1, s2 j hj⟩
    · rw [s3 k hk] at hj
      obtain ⟨q1, q2⟩ := H.mem k lk j hj
      refine ⟨q1, ?_⟩
      rw [s3 k hk, s3 j]
      · exact q2
      · intro x; exact hk (by rw [← (H.mem h hh j x).2, q2]; exact H.self k lk)
  · intro k lk; rw [ei]; exact H.may k lk

theorem Tr.set (H : Tr live N nd T S) {h : Nat} (hh : live h) (uh : (nd h).up = 0) (x : It) (hx : x.may) (s : Nat) (g : Ag) (es : s = (T h).length)
    (eg : g = agg ((T (nd h).l).map (fun k => (nd k).it) ++ x :: (T (nd h).r).map fun k => (nd k).it)) :
    Tr live N (upd nd h { (nd h) with it := x, size := s, ag := g }) T S := by
  have f : ∀ k, (upd nd h { (nd h) with it := x, size := s, ag := g } k).l = (nd k).l ∧ (upd nd h { (nd h) with it := x, size := s, ag := g } k).r = (nd k).r ∧ (upd nd h { (nd h) with it := x, size := s, ag := g } k).up = (nd k).up := fun k => by
    by_cases e : k = h
    · subst e; rw [upd_same]; exact ⟨rfl, rfl, rfl⟩
    · rw [upd_other _ _ e]; exact ⟨rfl, rfl, rfl⟩
  have out : ∀ k, live k → k ≠ h → h ∉ T k := fun k lk e hk => H.up_ne _ k (Nat.le_refl _) lk h hk (Ne.symm e) uh
  have mp : ∀ l : List Nat, h ∉ l → (l.map fun j => (upd nd h { (nd h) with it := x, size := s, ag := g } j).it) = l.map fun j => (nd j).it := fun l hl => List.map_congr_left (fun j hj => by have e : j ≠ h := fun e => hl (e ▸ hj); rw [upd_other _ _ e])
  have lenh := H.len hh
  have outl : h ∉ T (nd h).l := by
    by_cases e : (nd h).l = 0
    · rw [e, H.t0]; simp
    · exact out _ (H.l h hh e).1 (fun e2 => by rw [e2] at lenh; omega)
  have outr : h ∉ T (nd h).r := by
    by_cases e : (nd h).r = 0
    · rw [e, H.t0]; simp
    · exact out _ (H.r h hh e).1 (fun e2 => by rw [e2] at lenh; omega)
  constructor
  · exact H.nz
  · exact H.top
  · exact H.t0
  · intro k lk; rw [(f k).1, (f k).2.1]; exact H.t k lk
  · intro k lk; rw [(f k).1, (f _).2.2]; exact H.l k lk
  · intro k lk; rw [(f k).2.1, (f _).2.2]; exact H.r k lk
  · intro k lk; rw [(f k).2.2, (f _).1, (f _).2.1]; exact H.u k lk
  · intro k lk; rw [(f k).2.2]; exact H.root k lk
  · intro k lk
    by_cases e : k = h
    · subst e; rw [upd_same]; exact es
    · rw [upd_other _ _ e]; exact H.sz k lk
  · intro k lk
    by_cases e : k = h
    · subst e
      rw [upd_same, H.t k lk, List.map_append, List.map_cons, mp _ outl, mp _ outr, upd_same]
      exact eg
    · rw [upd_other _ _ e, mp _ (out k lk e)]; exact H.ag k lk
  · exact H.nodup
  · exact H.self
  · exact H.mem
  · intro k lk
    by_cases e : k = h
    · subst e; rw [upd_same]; exact hx
    · rw [upd_other _ _ e]; exact H.may k lk

/-- A node more. -/
theorem Tr.make {live' : Nat → Prop} {N' : Nat} (H : Tr live N nd T S) {h : Nat} (hnew : ¬ live h) (h0 : h ≠ 0) (hlive : ∀ k, live' k ↔ (k = h ∨ live k)) (hN : ∀ k, live' k → k ≤ N') (x : It) (hx : x.may) :
    Tr live' N' (upd nd h ⟨x, 0, 0, 0, 1, x.one⟩) (upd T h [h]) (upd S h [h]) := by
  have ne : ∀ k, live k → k ≠ h := fun k lk e => hnew (e ▸ lk)
  have nel : ∀ k, live k → (nd k).l ≠ h := fun k lk e => by
    by_cases z : (nd k).l = 0
    · exact h0 (e.symm.trans z)
    · exact hnew (e ▸ (H.l k lk z).1)
  have ner : ∀ k, live k → (nd k).r ≠ h := fun k lk e => by
    by_cases z : (nd k).r = 0
    · exact h0 (e.symm.trans z)
    · exact hnew (e ▸ (H.r k lk z).1)
  have neT : ∀ k, live k → h ∉ T k := fun k lk hk => hnew (H.memT lk hk)
  have mp : ∀ l : List Nat, h ∉ l → (l.map fun j => (upd nd h ⟨x, 0, 0, 0, 1, x.one⟩ j).it) = l.map fun j => (nd j).it := fun l hl => List.map_congr_left (fun j hj => by have e : j ≠ h := fun e => hl (e ▸ hj); rw [upd_other _ _ e])
  have up0 : upd T h [h] 0 = [] := by rw [upd_other _ _ (Ne.symm h0)]; exact H.t0
  have go : ∀ {P : Nat → Prop}, P h → (∀ k, live k → P k) → ∀ k, live' k → P k := fun {P} ph pk k lk => by
    rcases (hlive k).1 lk with rfl | lk
    · exact ph
    · exact pk k lk
  have lv : ∀ k, live k → live' k := fun k lk => (hlive k).2 (.inr lk)
  constructor
  · intro l; rcases (hlive 0).1 l with e | l
    · exact h0 e.symm
    · exact H.nz l
  · exact hN
  · exact up0
  · refine go ?_ (fun k lk => ?_)
    · rw [upd_same, upd_same]; show [h] = upd T h [h] 0 ++ h :: upd T h [h] 0; rw [up0]; rfl
    · rw [upd_other _ _ (ne k lk), upd_other _ _ (ne k lk), upd_other _ _ (nel k lk), upd_other _ _ (ner k lk)]; exact H.t k lk
  · refine go ?_ (fun k lk => ?_)
    · rw [upd_same]; intro z; exact absurd rfl z
    · rw [upd_other _ _ (ne k lk)]
      intro z
      obtain ⟨p1, p2⟩ := H.l k lk z
      exact ⟨lv _ p1, by rw [upd_other _ _ (nel k lk)]; exact p2⟩
  · refine go ?_ (fun k lk => ?_)
    · rw [upd_same]; intro z; exact absurd rfl z
    · rw [upd_other _ _ (ne k lk)]
      intro z
      obtain ⟨p1, p2⟩ := H.r k lk z
      exact ⟨lv _ p1, by rw [upd_other _ _ (ner k lk)]; exact p2⟩
  · refine go ?_ (fun k lk => ?_)
    · rw [upd_same]; intro z; exact absurd rfl z
    · rw [upd_other nd _ (ne k lk), upd_other S _ (ne k lk)]
      intro z
      obtain ⟨p1, p2, p3⟩ := H.u k lk z
      rw [upd_other nd _ (ne _ p1), upd_other S _ (ne _ p1)]
      exact ⟨lv _ p1, p2, p3⟩
  · refine go ?_ (fun k lk => ?_)
    · intro _; rw [upd_same, upd_same]
    · rw [upd_other _ _ (ne k lk), upd_other _ _ (ne k lk), upd_other _ _ (ne k lk)]; exact H.root k lk
  · refine go ?_ (fun k lk => ?_)
    · rw [upd_same, upd_same]; rfl
    · rw [upd_other _ _ (ne k lk), upd_other _ _ (ne k lk)]; exact H.sz k lk
  · refine go ?_ (fun k lk => ?_)
    · rw [upd_same T, List.map_cons, List.map_nil, upd_same]; exact (agg_one x).symm
    · rw [upd_other nd _ (ne k lk), upd_other T _ (ne k lk), mp _ (neT k lk)]; exact H.ag k lk
  · refine go ?_ (fun k lk => ?_)
    · rw [upd_same]; simp
    · rw [upd_other _ _ (ne k lk)]; exact H.nodup k lk
  · refine go ?_ (fun k lk => ?_)
    · rw [upd_same]; simp
    · rw [upd_other _ _ (ne k lk)]; exact H.self k lk
  · refine go ?_ (fun k lk => ?_)
    · rw [upd_same]; intro j hj; simp at hj; subst hj; exact ⟨(hlive _).2 (.inl rfl), upd_same ..⟩
    · rw [upd_other _ _ (ne k lk)]
      intro j hj
      obtain ⟨q1, q2⟩ := H.mem k lk j hj
      exact ⟨lv _ q1, by rw [upd_other _ _ (ne j q1)]; exact q2⟩
  · refine go ?_ (fun k lk => ?_)
    · rw [upd_same]; exact hx
    · rw [upd_other _ _ (ne k lk)]; exact H.may k lk

/-- A node that is alone goes. -/
theorem Tr.free {live' : Nat → Prop} (H : Tr live N nd T S) {h : Nat} (hh : live h) (uh : (nd h).up = 0) (hS : S h = [h]) (hlive : ∀ k, live' k ↔ (k ≠ h ∧ live k)) : Tr live' N nd T S := by
  have h0 := H.ne0 hh
  have of : ∀ k, live' k → live k := fun k lk => ((hlive k).1 lk).2
  have Th := H.t h hh
  rw [H.root h hh uh, hS] at Th
  have lz : (nd h).l = 0 := by
    by_cases e : (nd h).l = 0
    · exact e
    · have := H.len (H.l h hh e).1
      have l2 := congrArg List.length Th
      simp at l2; omega
  have rz : (nd h).r = 0 := by
    by_cases e : (nd h).r = 0
    · exact e
    · have := H.len (H.r h hh e).1
      have l2 := congrArg List.length Th
      simp at l2; omega
  constructor
  · intro l; exact H.nz (of 0 l)
  · exact fun k lk => H.top k (of k lk)
  · exact H.t0
  · exact fun k lk => H.t k (of k lk)
  · intro k lk z
    obtain ⟨p1, p2⟩ := H.l k (of k lk) z
    refine ⟨(hlive _).2 ⟨fun e => ?_, p1⟩, p2⟩
    rw [e, uh] at p2
    exact H.ne0 (of k lk) p2.symm
  · intro k lk z
    obtain ⟨p1, p2⟩ := H.r k (of k lk) z
    refine ⟨(hlive _).2 ⟨fun e => ?_, p1⟩, p2⟩
    rw [e, uh] at p2
    exact H.ne0 (of k lk) p2.symm
  · intro k lk z
    obtain ⟨p1, p2, p3⟩ := H.u k (of k lk) z
    refine ⟨(hlive _).2 ⟨fun e => ?_, p1⟩, p2, p3⟩
    rw [e, lz, rz] at p3
    rcases p3 with p3 | p3 <;> exact H.ne0 (of k lk) p3.symm
  · exact fun k lk => H.root k (of k lk)
  · exact fun k lk => H.sz k (of k lk)
  · exact fun k lk => H.ag k (of k lk)
  · exact fun k lk => H.nodup k (of k lk)
  · exact fun k lk => H.self k (of k lk)
  · intro k lk j hj
    obtain ⟨q1, q2⟩ := H.mem k (of k lk) j hj
    refine ⟨(hlive _).2 ⟨fun e => ?_, q1⟩, q2⟩
    rw [e, hS] at q2
    have := H.self k (of k lk)
    rw [← q2] at this
    simp at this
    exact ((hlive k).1 lk).1 this
  · exact fun k lk => H.may k (of k lk)

end Go.Proofs.Ythdmajddmajjoaa
