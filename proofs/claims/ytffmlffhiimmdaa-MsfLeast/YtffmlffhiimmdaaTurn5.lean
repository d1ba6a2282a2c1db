/- What a turn's four hangs leave is what the plain turn says. No program. -/
import Derived.Test.YtffmlffhiimmdaaReck
namespace Go.Proofs.Ytffmlffhiimmdaa
open Go.ChangeShapes Go.WideShapes Go.ChangeAt Go.RowKit
set_option linter.unusedVariables false

variable {live : Nat → Prop} {nd : Nat → Ln} {T S : Nat → List Nat} {P : Nat → Nat} {h u : Nat}

theorem Lc.cl (H : Lc live nd T S P) : Cl live nd := fun h hl => ⟨H.u h hl, fun e => (H.l h hl e).1, fun e => (H.r h hl e).1⟩
/-- What lies near a node that hangs at a side of another one. -/
structure Near (nd : Nat → Ln) (T : Nat → List Nat) (live : Nat → Prop) (h u : Nat) : Prop where
  lu : live u
  hu : h ≠ u
  lh : (nd h).l ≠ h ∧ (nd h).l ≠ u
  rh : (nd h).r ≠ h ∧ (nd h).r ≠ u
  lru : (nd u).l ≠ u ∧ (nd u).r ≠ u
  par : ∀ k, live k → ((nd k).l = u ∨ (nd k).r = u) → k = (nd u).up ∧ k ≠ h ∧ k ≠ u ∧ k ≠ 0
  one : ∀ k, live k → (nd k).l = u → (nd k).r ≠ u
  chl : ∀ k, live k → k ≠ u → (nd k).l ≠ h ∧ (nd k).r ≠ h
theorem Lc.lt_l (H : Lc live nd T S P) {h : Nat} (hl : live h) : (T (nd h).l).length < (T h).length := by have := H.len hl; omega
theorem Lc.lt_r (H : Lc live nd T S P) {h : Nat} (hl : live h) : (T (nd h).r).length < (T h).length := by have := H.len hl; omega
theorem Lc.lr (H : Lc live nd T S P) {h : Nat} (hl : live h) (l0 : (nd h).l ≠ 0) : (nd h).l ≠ (nd h).r := fun x => by
  have a := H.nodup h hl
  have m : (nd h).l ∈ T (nd h).l := H.selfT (H.l h hl l0).1
  rw [H.t h hl] at a
  have b : (T (nd h).l ++ h :: T (nd h).r).Nodup := by
    split at a
    · unfold List.Nodup at a ⊢; rw [List.pairwise_reverse] at a; exact a.imp (fun h e => h e.symm)
    · exact a
  rw [← x] at b
  have := (List.nodup_append.1 b).2.2 _ m _ (List.mem_cons_of_mem _ m)
  exact this rfl
theorem Lc.near (H : Lc live nd T S P) {h u : Nat} (hl : live h) (ul : live u) (e : (nd u).l = h ∨ (nd u).r = h) : Near nd T live h u := by
  have hlt : (T h).length < (T u).length := by
    rcases e with e | e
    · rw [← e]; exact H.lt_l ul
    · rw [← e]; exact H.lt_r ul
  have h0 := H.ne0 hl
  have u0 := H.ne0 ul
  have hup : (nd h).up = u := by
    rcases e with e | e
    · have := (H.l u ul (by rw [e]; exact h0)).2.1; rwa [e] at this
    · have := (H.r u ul (by rw [e]; exact h0)).2.1; rwa [e] at this
  have a1 := H.lt_l hl
  have a2 := H.lt_r hl
  refine ⟨ul, fun x => by rw [x] at hlt; omega, ⟨H.ne_l hl, fun x => by rw [x] at a1; omega⟩, ⟨H.ne_r hl, fun x => by rw [x] at a2; omega⟩, ⟨H.ne_l ul, H.ne_r ul⟩, fun k lk q => ?_, fun k lk q x => H.lr lk (by rw [q]; exact u0) (q.trans x.symm), fun k lk kn => ⟨fun x => ?_, fun x => ?_⟩⟩
  · have hk : (nd u).up = k ∧ (T u).length < (T k).length := by
      rcases q with q | q
      · have := (H.l k lk (by rw [q]; exact u0)).2.1; rw [q] at this; exact ⟨this, by rw [← q]; exact H.lt_l lk⟩
      · have := (H.r k lk (by rw [q]; exact u0)).2.1; rw [q] at this; exact ⟨this, by rw [← q]; exact H.lt_r lk⟩
    exact ⟨hk.1.symm, fun x => by have := hk.2; rw [x] at this; omega, fun x => by have := hk.2; rw [x] at this; omega, H.ne0 lk⟩
  · have := (H.l k lk (by rw [x]; exact h0)).2.1; rw [x, hup] at this; exact kn this.symm
  · have := (H.r k lk (by rw [x]; exact h0)).2.1; rw [x, hup] at this; exact kn this.symm

/-- The first step of a turn: h takes the place of u. -/
def place (nd : Nat → Ln) (h u : Nat) : Nat → Ln :=
  if TopN nd u then upd nd h { nd h with up := (nd u).up } else hangN nd (nd u).up (if (nd (nd u).up).l = u then 0 else 1) h
theorem place_h (NE : Near nd T live h u) (hl : live h) (cl : Cl live nd) : place nd h u h = { nd h with up := (nd u).up } := by
  unfold place
  split
  · rw [upd_same]
  · rename_i t
    have g0 : (nd u).up ≠ 0 := fun x => t (.inl x)
    have gne := (NE.par (nd u).up ((cl u NE.lu).1 g0) (by by_cases q : (nd (nd u).up).l = u; exact .inl q; exact .inr (Classical.byContradiction fun x => t (.inr ⟨q, x⟩)))).2
    unfold hangN
    rw [if_neg (fun x => gne.1 x.symm), if_pos rfl]
theorem place_o (NE : Near nd T live h u) (hl : live h) (cl : Cl live nd) {k : Nat} (lk : live k) (kh : k ≠ h) : place nd h u k = { nd k with l := if (nd k).l = u then h else (nd k).l, r := if (nd k).r = u then h else (nd k).r } := by
  unfold place
  split
  · rename_i t
    rw [upd_other _ _ kh]
    have : (nd k).l ≠ u ∧ (nd k).r ≠ u := by
      refine ⟨fun x => ?_, fun x => ?_⟩ <;>
      · have q := (NE.par k lk (by simp [x])).1
        rcases t with t | t
        · exact (NE.par k lk (by simp [x])).2.2.2 (q.trans t)
        · rw [← q] at t; simp_all
    rw [if_neg this.1, if_neg this.2]
  · rename_i t
    have g0 : (nd u).up ≠ 0 := fun x => t (.inl x)
    have gl := (cl u NE.lu).1 g0
    unfold hangN
    by_cases q : (nd (nd u).up).l = u
    · rw [if_pos q]
      by_cases kg : k = (nd u).up
      · subst kg
        rw [if_pos rfl, if_pos rfl, if_pos q, if_neg (NE.one _ gl q)]
      · rw [if_neg kg, if_neg kh, if_neg (fun x => kg (NE.par k lk (.inl x)).1), if_neg (fun x => kg (NE.par k lk (.inr x)).1)]
    · have q2 : (nd (nd u).up).r = u := Classical.byContradiction fun x => t (.inr ⟨q, x⟩)
      rw [if_neg q]
      by_cases kg : k = (nd u).up
      · subst kg
        rw [if_pos rfl, if_neg (by decide), if_neg q, if_pos q2]
      · rw [if_neg kg, if_neg kh, if_neg (fun x => kg (NE.par k lk (.inl x)).1), if_neg (fun x => kg (NE.par k lk (.inr x)).1)]

/-- All of a turn's links, h hung at the upper side. -/
theorem turnL_eq (NE : Near nd T live h u) (hl : live h) (hs : Small live) (cl : Cl live nd) (e : (nd u).l = h) (twh : (nd h).tw = false) (twu : (nd u).tw = false) {k : Nat} (lk : live k) :
    hangN (hangN (place nd h u) u 0 (nd h).r) h 1 u k = rotLN nd h u k := by
  have ph := place_h NE hl cl
  have pu := place_o NE hl cl NE.lu (Ne.symm NE.hu)
  rw [if_neg NE.lru.1, if_neg NE.lru.2] at pu
  unfold rotLN
  by_cases kh : k = h
  · subst kh
    rw [if_pos rfl]
    unfold hangN
    rw [if_pos rfl, if_neg (by decide), if_neg NE.hu, if_neg (Ne.symm NE.rh.1), ph]
    simp [twh]
  · rw [if_neg kh]
    by_cases ku : k = u
    · subst ku
      rw [if_pos rfl]
      unfold hangN
      rw [if_neg kh, if_pos rfl, if_pos rfl, if_pos rfl, pu]
      simp [twu]
    · rw [if_neg ku]
      have po := place_o NE hl cl lk kh
      unfold hangN
      rw [if_neg kh, if_neg ku, if_neg ku]
      by_cases kc : k = (nd h).r
      · have k0 := hs.ne lk
        rw [if_pos kc, if_pos ⟨k0, kc⟩, po]
      · rw [if_neg kc, if_neg (fun x => kc x.2), po]
theorem turnR_eq (NE : Near nd T live h u) (hl : live h) (hs : Small live) (cl : Cl live nd) (e : (nd u).r = h) (twh : (nd h).tw = false) (twu : (nd u).tw = false) {k : Nat} (lk : live k) :
    hangN (hangN (place nd h u) u 1 (nd h).l) h 0 u k = rotRN nd h u k := by
  have ph := place_h NE hl cl
  have pu := place_o NE hl cl NE.lu (Ne.symm NE.hu)
  rw [if_neg NE.lru.1, if_neg NE.lru.2] at pu
  unfold rotRN
  by_cases kh : k = h
  · subst kh
    rw [if_pos rfl]
    unfold hangN
    rw [if_pos rfl, if_pos rfl, if_neg NE.hu, if_neg (Ne.symm NE.lh.1), ph]
    simp [twh]
  · rw [if_neg kh]
    by_cases ku : k = u
    · subst ku
      rw [if_pos rfl]
      unfold hangN
      rw [if_neg kh, if_pos rfl, if_pos rfl, if_neg (by decide), pu]
      simp [twu]
    · rw [if_neg ku]
      have po := place_o NE hl cl lk kh
      unfold hangN
      rw [if_neg kh, if_neg ku, if_neg ku]
      by_cases kc : k = (nd h).l
      · have k0 := hs.ne lk
        rw [if_pos kc, if_pos ⟨k0, kc⟩, po]
      · rw [if_neg kc, if_neg (fun x => kc x.2), po]

end Go.Proofs.Ytffmlffhiimmdaa
