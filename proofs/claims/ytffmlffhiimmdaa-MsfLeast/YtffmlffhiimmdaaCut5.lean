/- A path is cut above its last node; chains that are cut. No program. -/
import Derived.Test.YtffmlffhiimmdaaGrow5
namespace Go.Proofs.Ytffmlffhiimmdaa
open Go.ChangeShapes Go.WideShapes Go.ChangeAt Go.RowKit Go.Maps
set_option linter.unusedVariables false
variable {live : Nat → Prop} {nd : Nat → Ln} {T S R : Nat → List Nat} {P hv : Nat → Nat} {E : Nat → Ed} {a c : Nat}

def cutN (nd : Nat → Ln) (a c : Nat) : Nat → Ln := upd (upd nd c { nd c with up := 0 }) a { nd a with l := 0 }
def cutT (T : Nat → List Nat) (a : Nat) : Nat → List Nat := upd T a [a]
def cutS (T S : Nat → List Nat) (a c : Nat) : Nat → List Nat := fun k => if k ∈ T c then T c else if k = a then [a] else S k
def cutP (T : Nat → List Nat) (P : Nat → Nat) (c : Nat) : Nat → Nat := fun k => if k ∈ T c then 0 else P k
theorem Lc.cut (H : Lc live nd T S P) (la : live a) (hta : T a = S a) (hpa : P a = (nd a).up) (tw : (nd a).tw = false) (r0 : (nd a).r = 0) (hc : (nd a).l = c) (c0 : c ≠ 0) : Lc live (cutN nd a c) (cutT T a) (cutS T S a c) (cutP T P c) := by
  have a0 := H.ne0 la
  obtain ⟨lc, uc, sc⟩ := H.l a la (by rw [hc]; exact c0)
  rw [hc] at lc uc sc
  have Ta : T a = T c ++ [a] := by rw [H.t a la, if_neg (by simp [tw]), hc, r0, H.t0]
  have nda := H.nodup a la
  rw [Ta] at nda
  have naC : a ∉ T c := fun m => (List.nodup_append.1 nda).2.2 a m a (by simp) rfl
  have ca : c ≠ a := fun x => naC (x ▸ H.selfT lc)
  have inC : ∀ k ∈ T c, live k ∧ S k = S a := fun k hk => by have := H.sub lc hk; exact ⟨this.1, this.2.trans sc⟩
  have noch := fun k lk => H.nochild la (k := k) lk hta
  have na : cutN nd a c a = { nd a with l := 0 } := by unfold cutN; rw [upd_same]
  have no : ∀ k, k ≠ a → (cutN nd a c k).l = (nd k).l ∧ (cutN nd a c k).r = (nd k).r ∧ (cutN nd a c k).tw = (nd k).tw := fun k ka => by
    unfold cutN; rw [upd_other _ _ ka]; unfold upd; split
    · rename_i e; rw [e]; exact ⟨rfl, rfl, rfl⟩
    · exact ⟨rfl, rfl, rfl⟩
  have nu : ∀ k, k ≠ c → (cutN nd a c k).up = (nd k).up := fun k kc => by
    unfold cutN
    by_cases ka : k = a
    · subst ka; rw [upd_same]
    · rw [upd_other _ _ ka, upd_other _ _ kc]
  have ncu : (cutN nd a c c).up = 0 := by unfold cutN; rw [upd_other _ _ ca, upd_same]
  have To : ∀ k, k ≠ a → cutT T a k = T k := fun k ka => by unfold cutT; rw [upd_other _ _ ka]
  have Taa : cutT T a a = [a] := by unfold cutT; rw [upd_same]
  have Sa : cutS T S a c a = [a] := by unfold cutS; rw [if_neg naC, if_pos rfl]
  have Sc : ∀ k, k ∈ T c → cutS T S a c k = T c := fun k hk => by unfold cutS; rw [if_pos hk]
  have So : ∀ k, k ∉ T c → k ≠ a → cutS T S a c k = S k := fun k hk ka => by unfold cutS; rw [if_neg hk, if_neg ka]
  have Pc : ∀ k, k ∈ T c → cutP T P c k = 0 := fun k hk => by unfold cutP; rw [if_pos hk]
  have Po : ∀ k, k ∉ T c → cutP T P c k = P k := fun k hk => by unfold cutP; rw [if_neg hk]
  have kid : ∀ h, live h → h ≠ a → ∀ k, live k → (nd k).up = h → ((nd h).l = k ∨ (nd h).r = k) → (k ∈ T c ↔ h ∈ T c) := fun h lh ha k lk ku hk => by
    refine ⟨fun m => ?_, fun m => ?_⟩
    · have := (H.below lc m).2 (fun x => ha (by rw [← ku, x, uc]))
      rw [ku] at this; exact this.1
    · refine (H.below lc m).1 k ((H.mem_t lh).2 ?_)
      rcases hk with e | e
      · exact .inl (by rw [e]; exact H.selfT lk)
      · exact .inr (.inr (by rw [e]; exact H.selfT lk))
  have off : ∀ h, live h → h ∉ T c → h ≠ a → S h ≠ S a := fun h lh h1 h2 e => by
    have : h ∈ S a := by rw [← e]; exact H.self h lh
    rw [← hta, Ta] at this
    rcases List.mem_append.1 this with m | m
    · exact h1 m
    · exact h2 (by simpa using m)
  refine ⟨H.nz, by rw [To 0 (Ne.symm a0)]; exact H.t0, fun h lh => ?_, fun h lh h0 => ?_, fun h lh h0 => ?_, fun h lh h0 => ?_, fun h lh t => ?_, fun h lh => ?_, fun h lh => ?_, fun h lh k hk => ?_, fun h lh h0 => ?_, fun h lh h0 => ?_⟩
  · by_cases ha : h = a
    · subst ha; rw [Taa, na]; simp only [tw, r0, Bool.false_eq_true, if_false]; rw [To 0 (Ne.symm a0), H.t0]; rfl
    · rw [To h ha, (no h ha).1, (no h ha).2.1, (no h ha).2.2, To _ (noch h lh).1, To _ (noch h lh).2]; exact H.t h lh
  · by_cases ha : h = a
    · subst ha; rw [na] at h0; exact absurd rfl h0
    · rw [(no h ha).1] at h0 ⊢
      obtain ⟨q1, q2, q3⟩ := H.l h lh h0
      have kc : (nd h).l ≠ c := fun x => ha (by rw [← q2, x, uc])
      refine ⟨q1, by rw [nu _ kc]; exact q2, ?_⟩
      have := kid h lh ha _ q1 q2 (.inl rfl)
      by_cases m : h ∈ T c
      · rw [Sc _ m, Sc _ (this.2 m)]
      · rw [So h m ha, So _ (fun z => m (this.1 z)) (noch h lh).1]; exact q3
  · by_cases ha : h = a
    · subst ha; rw [na] at h0; exact absurd r0 h0
    · rw [(no h ha).2.1] at h0 ⊢
      obtain ⟨q1, q2, q3⟩ := H.r h lh h0
      have kc : (nd h).r ≠ c := fun x => ha (by rw [← q2, x, uc])
      refine ⟨q1, by rw [nu _ kc]; exact q2, ?_⟩
      have := kid h lh ha _ q1 q2 (.inr rfl)
      by_cases m : h ∈ T c
      · rw [Sc _ m, Sc _ (this.2 m)]
      · rw [So h m ha, So _ (fun z => m (this.1 z)) (noch h lh).2]; exact q3
  · by_cases hcc : h = c
    · subst hcc; rw [ncu] at h0; exact absurd rfl h0
    · rw [nu h hcc] at h0 ⊢; exact H.u h lh h0
  · by_cases ha : h = a
    · subst ha; rw [Taa, Sa, Po h naC, nu h (Ne.symm ca)]; exact ⟨rfl, hpa⟩
    · rw [To h ha]
      by_cases hcc : h = c
      · subst hcc; rw [Sc h (H.selfT lh), Pc h (H.selfT lh), ncu]; exact ⟨rfl, rfl⟩
      · rw [nu h hcc] at t ⊢
        have t2 : (nd h).up = 0 ∨ ((nd (nd h).up).l ≠ h ∧ (nd (nd h).up).r ≠ h) := by
          rcases t with t | t
          · exact .inl t
          · by_cases ua : (nd h).up = a
            · exact .inr (by rw [ua, hc, r0]; exact ⟨fun x => hcc x.symm, fun x => H.ne0 lh x.symm⟩)
            · rw [(no _ ua).1, (no _ ua).2.1] at t; exact .inr t
        obtain ⟨t3, p3⟩ := H.top h lh t2
        have hm : h ∉ T c := fun m => ha (H.one la lh hta t3 (inC h m).2)
        rw [So h hm ha, Po h hm]; exact ⟨t3, p3⟩
  · by_cases ha : h = a
    · subst ha; rw [Taa]; simp
    · rw [To h ha]; exact H.nodup h lh
  · by_cases m : h ∈ T c
    · rw [Sc h m]; exact m
    · by_cases ha : h = a
      · subst ha; rw [Sa]; simp
      · rw [So h m ha]; exact H.self h lh
  · by_cases m : h ∈ T c
    · rw [Sc h m] at hk
      rw [Sc k hk, Sc h m, Pc k hk, Pc h m]; exact ⟨(inC k hk).1, rfl, rfl⟩
    · by_cases ha : h = a
      · subst ha; rw [Sa] at hk
        have : k = h := by simpa using hk
        subst this; exact ⟨lh, rfl, rfl⟩
      · rw [So h m ha] at hk
        obtain ⟨q1, q2, q3⟩ := H.mem h lh k hk
        have km : k ∉ T c := fun z => off h lh m ha (q2.symm.trans (inC k z).2)
        have ka : k ≠ a := fun z => off h lh m ha (by rw [← q2, z])
        rw [So k km ka, So h m ha, Po k km, Po h m]; exact ⟨q1, q2, q3⟩
  · by_cases m : h ∈ T c
    · rw [Pc h m] at h0; exact absurd rfl h0
    · rw [Po h m] at h0 ⊢
      have lp := H.pl h lh h0
      have ho := H.out h lh h0
      by_cases ha : h = a
      · subst ha
        have pm : P h ∉ T c := fun z => ho (inC _ z).2
        have pa : P h ≠ h := fun z => ho (by rw [z])
        rw [So _ pm pa, Sa]
        intro z
        have := H.self _ lp
        rw [z] at this
        exact pa (by simpa using this)
      · rw [So h m ha]
        by_cases pm : P h ∈ T c
        · rw [Sc _ pm]; exact fun z => m (by rw [z]; exact H.self h lh)
        · by_cases pa : P h = a
          · rw [pa, Sa]; exact fun z => ha (by have := H.self h lh; rw [← z] at this; simpa using this)
          · rw [So _ pm pa]; exact ho
  · by_cases m : h ∈ T c
    · rw [Pc h m] at h0; exact absurd rfl h0
    · rw [Po h m] at h0 ⊢; exact H.pl h lh h0

/-- Chains, cut off ahead of a node. -/
def cutR (R : Nat → List Nat) (a : Nat) : Nat → List Nat := fun k => if a ∈ R k then (R k).drop ((R a).length - 1) else R k
theorem Rt.cut_in (hT : Rt live R) (la : live a) {p : List Nat} (ea : R a = p ++ [a]) {k : Nat} (lk : live k) (m : a ∈ R k) : ∃ q, R k = p ++ a :: q ∧ cutR R a k = a :: q := by
  obtain ⟨q, hq⟩ := hT.pre k lk a m
  refine ⟨q, by rw [hq, ea]; simp, ?_⟩
  unfold cutR
  rw [if_pos m, hq, ea]
  simp
theorem cut_out {k : Nat} (m : a ∉ R k) : cutR R a k = R k := by unfold cutR; rw [if_neg m]
theorem Rt.cut (hT : Rt live R) (la : live a) : Rt live (cutR R a) := by
  obtain ⟨p, ea⟩ := hT.last a la
  refine ⟨fun k lk => ?_, fun k lk y hy => ?_, fun k lk y hy => ?_, fun k lk => ?_⟩ <;> by_cases m : a ∈ R k
  · obtain ⟨q, e1, e2⟩ := hT.cut_in la ea lk m
    obtain ⟨p2, ek⟩ := hT.last k lk
    rw [e2]
    rcases List.eq_nil_or_concat q with z | ⟨Z, y, z⟩
    · subst z
      rw [e1] at ek
      have := (last_eq ek).2
      exact ⟨[], by rw [this]; rfl⟩
    · rw [List.concat_eq_append] at z
      subst z
      rw [e1] at ek
      have : p ++ a :: (Z ++ [y]) = (p ++ a :: Z) ++ [y] := by simp
      rw [this] at ek
      exact ⟨a :: Z, by rw [(last_eq ek).2]; rfl⟩
  · rw [cut_out m]; exact hT.last k lk
  · obtain ⟨q, e1, e2⟩ := hT.cut_in la ea lk m
    rw [e2] at hy
    exact hT.mem k lk y (by rw [e1]; exact List.mem_append_right _ hy)
  · rw [cut_out m] at hy; exact hT.mem k lk y hy
  · obtain ⟨q, e1, e2⟩ := hT.cut_in la ea lk m
    rw [e2] at hy
    have hyk : y ∈ R k := by rw [e1]; exact List.mem_append_right _ hy
    have ly := hT.mem k lk y hyk
    obtain ⟨r, er⟩ := hT.pre k lk y hyk
    have may : a ∈ R y := by
      have nn := hT.nodup k lk
      obtain ⟨X, Y, eX⟩ := List.append_of_mem hy
      have e3 : R k = (p ++ X) ++ y :: Y := by rw [e1, eX]; simp
      have e4 := hT.at lk e3
      rw [e4]
      cases X with
      | nil => simp at eX; rw [eX.1]; simp
      | cons x X => simp at eX; rw [eX.1]; simp
    obtain ⟨q2, f1, f2⟩ := hT.cut_in la ea ly may
    refine ⟨r, ?_⟩
    rw [e2, f2]
    rw [e1, f1] at er
    have : p ++ a :: q = p ++ (a :: q2 ++ r) := by rw [er]; simp
    exact List.append_cancel_left this
  · rw [cut_out m] at hy ⊢
    have ly := hT.mem k lk y hy
    have my : a ∉ R y := fun z => by
      obtain ⟨r, er⟩ := hT.pre k lk y hy
      exact m (by rw [er]; exact List.mem_append_left _ z)
    rw [cut_out my]; exact hT.pre k lk y hy
  · obtain ⟨q, e1, e2⟩ := hT.cut_in la ea lk m
    have nn := hT.nodup k lk
    rw [e1] at nn
    rw [e2]; exact (List.nodup_append.1 nn).2.1
  · rw [cut_out m]; exact hT.nodup k lk

theorem Rc.cut (H : Lc live nd T S P) (hR : Rc live S P R) (hT : Rt live R) (la : live a) (hta : T a = S a) (he : S a = R a) (hp : P a = 0) (Ta : T a = T c ++ [a]) (lc : live c) : Rc live (cutS T S a c) (cutP T P c) (cutR R a) := by
  obtain ⟨p, ea⟩ := hT.last a la
  have nda := H.nodup a la
  rw [Ta] at nda
  have naC : a ∉ T c := fun m => (List.nodup_append.1 nda).2.2 a m a (by simp) rfl
  have raa : cutR R a a = [a] := by
    obtain ⟨q, e1, e2⟩ := hT.cut_in la ea la (by rw [ea]; simp)
    rw [ea] at e1
    have : ([a] : List Nat) = a :: q := List.append_cancel_left e1
    rw [e2, ← this]
  intro h lh A y B e
  unfold cutS at e
  unfold cutP
  split at e
  · rename_i m
    rw [if_pos m, if_pos rfl]
    have e2 : S a = A ++ y :: (B ++ [a]) := by rw [← hta, Ta, e]; simp
    have ry := hR a la A y (B ++ [a]) e2
    rw [hp, if_pos rfl] at ry
    rw [cut_out, ry]
    rw [ry]
    intro z
    refine naC ?_
    rw [e]
    simp only [List.nil_append] at z
    rcases List.mem_append.1 z with z | z
    · exact List.mem_append_left _ z
    · exact List.mem_append_right _ (by simp at z; rw [z]; simp)
  · rename_i m
    rw [if_neg m]
    split at e
    · rename_i ha
      subst ha
      cases A with
      | nil => simp at e; rw [← e.1, hp, raa]; simp
      | cons x X => simp at e
    · rename_i ha
      have aS : a ∉ S h := fun z => by
        have q := H.mem h lh a z
        have : h ∈ S a := by rw [q.2.1]; exact H.self h lh
        rw [← hta, Ta] at this
        rcases List.mem_append.1 this with z | z
        · exact m z
        · exact ha (by simpa using z)
      have ry := hR h lh A y B e
      have aAy : a ∉ A ++ [y] := fun z => aS (by
        rw [e]
        rcases List.mem_append.1 z with z | z
        · exact List.mem_append_left _ z
        · exact List.mem_append_right _ (by simp at z; rw [z]; simp))
      by_cases p0 : P h = 0
      · rw [if_pos p0] at ry ⊢
        rw [cut_out, ry]
        rw [ry]; simpa using aAy
      · rw [if_neg p0] at ry ⊢
        have lp := H.pl h lh p0
        have ly := (H.mem h lh y (by rw [e]; simp)).1
        by_cases mp : a ∈ R (P h)
        · obtain ⟨q, e1, e2⟩ := hT.cut_in la ea lp mp
          obtain ⟨q2, f1, f2⟩ := hT.cut_in la ea ly (by rw [ry]; simp [mp])
          rw [e2, f2]
          rw [ry, e1] at f1
          have : p ++ a :: (q ++ A ++ [y]) = p ++ a :: q2 := by rw [← f1]; simp
          have := List.append_cancel_left this
          rw [← this]; simp
        · rw [cut_out mp, cut_out]
          · exact ry
          · rw [ry, List.append_assoc]
            exact fun z => (List.mem_append.1 z).elim mp aAy
theorem cut_root (hT : Rt live R) (la : live a) (e : R a = [a]) {k : Nat} (lk : live k) : cutR R a k = R k := by
  unfold cutR
  split
  · rw [e]; simp
  · rfl

set_option maxRecDepth 100000 in
set_option maxHeartbeats 4000000 in
theorem cutAbove_fg (w : World) (o : Nat → Nat) (L : Nat) (live : Nat → Prop) (pt : Nat → Nat) (E : Nat → Ed) (R : Nat → List Nat) (n : Nat) (F : Fg w o L live pt E R) (nl : live n) :
    Calls Try.prog 48 #[.pointer (some ⟨pt n, 0, none⟩)] w fun e w' => e = .returned (.tuple #[]) ∧ Fg w' o L live pt E (cutR R n) ∧ Step (NL L) w o w' o := by
  obtain ⟨nd, hv, T, S, P, G, hR, hT⟩ := F
  have hc := expose_any w o L live pt E R nd hv T S P n G hR nl
  go_enter Try.func48, Try.ntmps48
  go_wp2_with fail
  refine hc.mono ?_
  rintro e w1 ⟨rfl, nd1, hv1, T1, S1, P1, G1, ⟨hR1, s1, p1, t1, tw1, _⟩, SS1⟩
  obtain ⟨ta, pa⟩ := G1.c.top n nl t1
  have tn := G1.c.t n nl
  rw [if_neg (by simp [tw1])] at tn
  obtain ⟨pp, epp⟩ := hT.last n nl
  have r0 : (nd1 n).r = 0 := Classical.byContradiction fun x => by
    have lr := (G1.c.cl n nl).2.2 x
    have nn := G1.c.nodup n nl
    have e2 := tn
    rw [ta, s1, epp] at e2
    rcases List.eq_nil_or_concat (T1 (nd1 n).r) with z | ⟨Z, y, z⟩
    · have := G1.c.selfT lr; rw [z] at this; simp at this
    · rw [List.concat_eq_append] at z
      rw [z] at e2
      have e3 : pp ++ [n] = (T1 (nd1 n).l ++ n :: Z) ++ [y] := by rw [e2]; simp
      have ny := (last_eq e3).2
      rw [tn, z, ← ny] at nn
      have := (List.nodup_append.1 nn).2.1
      simp at this
  have C1 := G1.m.node nl
  have cl := C1.l
  have cf := C1.fz
  by_cases l0 : (nd1 n).l = 0
  · have e1 : R n = [n] := by rw [← s1, ← ta, tn, l0, r0, G1.c.t0]; rfl
    have F2 : Fg w1 o L live pt E (cutR R n) := Fg.congr ⟨nd1, hv1, T1, S1, P1, G1, hR1, hT⟩ (fun k lk => cut_root hT nl e1 lk)
    rw [l0, pq0] at cl
    clear hc G hR C1 G1
    go_wp2
    go_end0
    exact ⟨rfl, F2, SS1⟩
  · have lc := (G1.c.cl n nl).2.1 l0
    have Ta : T1 n = T1 (nd1 n).l ++ [n] := by rw [tn, r0, G1.c.t0]
    have H2 := G1.c.cut nl ta pa tw1 r0 rfl l0
    have hR2 := Rc.cut G1.c hR1 hT nl ta s1 p1 Ta lc
    have hT2 := hT.cut nl
    have ne := G1.c.ne_l nl
    obtain ⟨F2, z2⟩ := G1.m.set_up G1.s lc 0
    have D2 := F2.node nl
    obtain ⟨F3, z3⟩ := F2.set_l G1.s nl 0
    have F3 : Lm _ o L live pt E (cutN nd1 n (nd1 n).l) hv1 := F3.congr (fun k _ => by
      unfold cutN
      rw [upd_other nd1 _ (Ne.symm ne)]) (fun _ _ => rfl)
    have hk := reckon_any _ o L live pt E _ hv1 n F3 G1.s H2.cl (G1.v.hc G1.c) nl (H2.ne_l nl) (H2.ne_r nl)
    have V2 : Hv E live (cutT T1 n) (upd hv1 n (reckN E (cutN nd1 n (nd1 n).l) hv1 n)) := fun k lk => by
      unfold upd
      by_cases e : k = n
      · subst e
        rw [if_pos rfl]
        have e1 : cutT T1 k k = [] ++ k :: [] := by unfold cutT; rw [upd_same]; rfl
        have e2 : cutN nd1 k (nd1 k).l k = { nd1 k with l := 0 } := by unfold cutN; rw [upd_same]
        rw [e1]
        refine reck_top (c := 0) (d := 0) (G1.s.ne nl) ?_ ?_ <;> rw [e2]
        · unfold hvs; rw [if_pos rfl]; exact .nil
        · show TopE E [] (hvs hv1 (nd1 k).r); rw [r0]; unfold hvs; rw [if_pos rfl]; exact .nil
      · rw [if_neg e]; unfold cutT; rw [upd_other _ _ e]; exact G1.v k lk
    have gs := G1.s
    have d1 := D2.l
    have dfz := D2.fz
    rw [upd_other _ _ (Ne.symm ne)] at d1
    rw [pqn pt l0] at cl d1
    have fl := (G1.m.node lc).fz
    have ul := (G1.m.node lc).up
    have SS2 := (SS1.trans z2).trans z3
    rw [pq0] at d1 dfz hk SS2
    clear hc G hR C1 G1 F2 F3 D2 z2 z3 SS1
    go_wp2_with fail
    refine hk.mono ?_
    rintro e w4 ⟨rfl, F4, s4⟩
    have SS4 := SS2.trans s4
    clear hk SS2
    go_wp2
    go_end0
    exact ⟨rfl, ⟨_, _, _, _, _, ⟨F4, gs, H2, V2⟩, hR2, hT2⟩, SS4⟩

end Go.Proofs.Ytffmlffhiimmdaa
