/- A turn: a node changes its place with the one that it hangs on. -/
import Derived.Test.YthdmajddmajjoaaTurnMath
namespace Go.Proofs.Ythdmajddmajjoaa
open Go.ChangeShapes Go.WideShapes Go.ChangeAt Go.RowKit
set_option linter.unusedVariables false

/-- What a turn of h, which hung on u, leaves. -/
structure TurnOut (live : Nat → Prop) (N : Nat) (nd : Nat → Nd) (T S : Nat → List Nat) (h u : Nat) (nd' : Nat → Nd) (T' : Nat → List Nat) : Prop where
  tr : Tr live N nd' T' S
  top : T' h = T u
  up : (nd' h).up = (nd u).up
  it : ∀ k, (nd' k).it = (nd k).it
  keepl : (nd u).l = h → (nd' h).l = (nd h).l
  keepr : (nd u).l ≠ h → (nd' h).r = (nd h).r
  other : ∀ k, k ∉ S h → nd' k = nd k ∧ T' k = T k

theorem Tr.subOf {n : Nat} {free : List Nat} {N : Nat} {nd : Nat → Nd} {T S : Nat → List Nat} (H : Tr (Live n free) N nd T S) {c : Nat} (hc : c ≠ 0 → Live n free c) (nd3 : Nat → Nd) (e1 : c ≠ 0 → (nd3 c).size = (nd c).size) (e2 : c ≠ 0 → (nd3 c).ag = (nd c).ag) :
    Sub n free nd3 c ((T c).map fun k => (nd k).it) := by
  by_cases c0 : c = 0
  · exact .inl ⟨c0, by rw [c0, H.t0]; rfl⟩
  · exact .inr ⟨hc c0, by rw [e1 c0, H.sz c (hc c0), List.length_map], by rw [e2 c0, H.ag c (hc c0)]⟩
theorem Tr.mayT {n : Nat} {free : List Nat} {N : Nat} {nd : Nat → Nd} {T S : Nat → List Nat} (H : Tr (Live n free) N nd T S) {c : Nat} (hc : c ≠ 0 → Live n free c) : ∀ x ∈ (T c).map (fun k => (nd k).it), x.may := by
  intro x hx
  obtain ⟨k, hk, rfl⟩ := List.mem_map.1 hx
  by_cases c0 : c = 0
  · rw [c0, H.t0] at hk; simp at hk
  · exact H.may k (H.memT (hc c0) hk)
theorem Tr.lenT {n : Nat} {free : List Nat} {N : Nat} {nd : Nat → Nd} {T S : Nat → List Nat} (H : Tr (Live n free) N nd T S) {c : Nat} (hc : c ≠ 0 → Live n free c) : (T c).length ≤ N := by
  by_cases c0 : c = 0
  · rw [c0, H.t0]; simp
  · exact H.lenN (hc c0)
theorem Tr.near_mem {live : Nat → Prop} {N : Nat} {nd : Nat → Nd} {T S : Nat → List Nat} (H : Tr live N nd T S) {h u : Nat} (hl : live h) (hu : (nd h).up = u) (hu0 : u ≠ 0) :
    h ∈ S h ∧ u ∈ S h ∧ ((nd u).up ≠ 0 → (nd u).up ∈ S h) ∧ ((nd h).l ≠ 0 → (nd h).l ∈ S h) ∧ ((nd h).r ≠ 0 → (nd h).r ∈ S h) := by
  obtain ⟨lu, hSu, hc⟩ := H.u h hl (by rw [hu]; exact hu0)
  rw [hu] at lu hSu
  have hc : ∀ c, live c ∧ (nd c).up = h → c ∈ S h := fun c ⟨p1, p2⟩ => by
    have := (H.u c p1 (by rw [p2]; exact H.ne0 hl)).2.1
    rw [p2] at this
    rw [this]; exact H.self c p1
  refine ⟨H.self h hl, by rw [← hSu]; exact H.self u lu, fun e => ?_, fun e => hc _ (H.l h hl e), fun e => hc _ (H.r h hl e)⟩
  obtain ⟨p1, p2, _⟩ := H.u u lu e
  rw [← hSu, ← p2]; exact H.self _ p1

/-- All steps of a turn, at the side ahead. -/
theorem Tr.outR {n : Nat} {free : List Nat} {N : Nat} {nd : Nat → Nd} {T S : Nat → List Nat} (H : Tr (Live n free) N nd T S) {h u : Nat} (hl : Live n free h) (hu : (nd h).up = u) (hu0 : u ≠ 0) (hs : (nd u).l = h) {su sh : Nat} {au ah : Ag}
    (e1 : su = ((T (nd h).r).map fun k => (nd k).it).length + 1 + ((T (nd u).r).map fun k => (nd k).it).length) (e2 : au = agg (((T (nd h).r).map fun k => (nd k).it) ++ (nd u).it :: ((T (nd u).r).map fun k => (nd k).it)))
    (e3 : sh = (T u).length) (e4 : ah = agg ((T u).map fun k => (nd k).it)) :
    ∃ T', TurnOut (Live n free) N nd T S h u (turn5 nd h u 0 (nd h).r (nd u).up su sh au ah) T' := by
  have NE := H.near hl hu hu0
  have h0 := H.ne0 hl
  have t3 := fun k lk => turn3R NE h0 hu0 k lk
  have E : TurnedR (Live n free) nd T h u (turn5 nd h u 0 (nd h).r (nd u).up su sh au ah) (fun k => if k = h then T u else if k = u then T (nd h).r ++ u :: T (nd u).r else T k) := by
    constructor
    · intro k lk; rw [(turn5_links ..).1, (t3 k lk).1]
    · intro k lk; rw [(turn5_links ..).2.1, (t3 k lk).2.1]
    · intro k lk; rw [(turn5_links ..).2.2.1, (t3 k lk).2.2 (H.ne0 lk)]
    · intro k; rw [(turn5_links ..).2.2.2, (turn3_rest ..).1]
    · intro k; rfl
    · intro k k1 k2; rw [turn5_other _ _ _ _ _ _ _ _ _ _ k1 k2]; exact (turn3_rest ..).2
    · obtain ⟨g1, g2⟩ := turn5_u nd h u 0 (nd h).r (nd u).up su sh au ah (Ne.symm NE.hu)
      rw [g1, g2]
      simp only [if_neg (Ne.symm NE.hu), if_true]
      refine ⟨?_, ?_⟩
      · rw [e1]; simp; omega
      · rw [e2]; simp
    · obtain ⟨g1, g2⟩ := turn5_h nd h u 0 (nd h).r (nd u).up su sh au ah
      rw [g1, g2]
      simp only [if_true]
      exact ⟨e3, e4⟩
  obtain ⟨m1, m2, m3, m4, m5⟩ := H.near_mem hl hu hu0
  refine ⟨_, H.turnR hl hu hu0 hs E, by rw [if_pos rfl], ?_, E.it, ?_, fun e => absurd hs e, fun k hk => ?_⟩
  · rw [E.up h hl, if_pos rfl]
  · intro _; rw [E.l h hl, if_pos rfl]
  · have k1 : k ≠ h := fun e => hk (e ▸ m1)
    have k2 : k ≠ u := fun e => hk (e ▸ m2)
    refine ⟨?_, by rw [if_neg k1, if_neg k2]⟩
    rw [turn5_other _ _ _ _ _ _ _ _ _ _ k1 k2]
    by_cases c0 : (nd h).r = 0
    · by_cases o0 : (nd u).up = 0
      · by_cases kk : k = 0
        · unfold turn3 hangN turn1; simp [c0, o0, hu0, upd, kk, Ne.symm h0, Ne.symm hu0]
        · exact turn3_other _ k1 k2 (by rw [c0]; exact kk) (by rw [o0]; exact kk)
      · by_cases kk : k = 0
        · have : k ≠ (nd u).up := fun e => o0 (e ▸ kk)
          unfold turn3 hangN turn1 hangN; simp [c0, o0, hu0, upd, kk, Ne.symm h0, Ne.symm hu0, Ne.symm o0, h0]
        · exact turn3_other _ k1 k2 (by rw [c0]; exact kk) (fun e => hk (e ▸ m3 o0))
    · have k3 : k ≠ (nd h).r := fun e => hk (e ▸ m5 c0)
      by_cases o0 : (nd u).up = 0
      · unfold turn3
        rw [hangN_other _ k1 k2, hangN_other _ k2 k3]
        unfold turn1
        rw [if_pos o0, upd_other _ _ k1]
      · exact turn3_other _ k1 k2 k3 (fun e => hk (e ▸ m3 o0))
theorem Tr.outL {n : Nat} {free : List Nat} {N : Nat} {nd : Nat → Nd} {T S : Nat → List Nat} (H : Tr (Live n free) N nd T S) {h u : Nat} (hl : Live n free h) (hu : (nd h).up = u) (hu0 : u ≠ 0) (hs : (nd u).l ≠ h) {su sh : Nat} {au ah : Ag}
    (e1 : su = ((T (nd u).l).map fun k => (nd k).it).length + 1 + ((T (nd h).l).map fun k => (nd k).it).length) (e2 : au = agg (((T (nd u).l).map fun k => (nd k).it) ++ (nd u).it :: ((T (nd h).l).map fun k => (nd k).it)))
    (e3 : sh = (T u).length) (e4 : ah = agg ((T u).map fun k => (nd k).it)) :
    ∃ T', TurnOut (Live n free) N nd T S h u (turn5 nd h u 1 (nd h).l (nd u).up su sh au ah) T' := by
  have NE := H.near hl hu hu0
  have h0 := H.ne0 hl
  have t3 := fun k lk => turn3L NE h0 hu0 k lk
  have hs2 : (nd u).r = h := by
    obtain ⟨_, _, hc⟩ := H.u h hl (by rw [hu]; exact hu0)
    rw [hu] at hc
    exact hc.resolve_left hs
  have E : TurnedL (Live n free) nd T h u (turn5 nd h u 1 (nd h).l (nd u).up su sh au ah) (fun k => if k = h then T u else if k = u then T (nd u).l ++ u :: T (nd h).l else T k) := by
    constructor
    · intro k lk; rw [(turn5_links ..).1, (t3 k lk).1]
    · intro k lk; rw [(turn5_links ..).2.1, (t3 k lk).2.1]
    · intro k lk; rw [(turn5_links ..).2.2.1, (t3 k lk).2.2 (H.ne0 lk)]
    · intro k; rw [(turn5_links ..).2.2.2, (turn3_rest ..).1]
    · intro k; rfl
    · intro k k1 k2; rw [turn5_other _ _ _ _ _ _ _ _ _ _ k1 k2]; exact (turn3_rest ..).2
    · obtain ⟨g1, g2⟩ := turn5_u nd h u 1 (nd h).l (nd u).up su sh au ah (Ne.symm NE.hu)
      rw [g1, g2]
      simp only [if_neg (Ne.symm NE.hu), if_true]
      refine ⟨?_, ?_⟩
      · rw [e1]; simp; omega
      · rw [e2]; simp
    · obtain ⟨g1, g2⟩ := turn5_h nd h u 1 (nd h).l (nd u).up su sh au ah
      rw [g1, g2]
      simp only [if_true]
      exact ⟨e3, e4⟩
  obtain ⟨m1, m2, m3, m4, m5⟩ := H.near_mem hl hu hu0
  refine ⟨_, H.turnL hl hu hu0 hs2 E, by rw [if_pos rfl], ?_, E.it, fun e => absurd e hs, ?_, fun k hk => ?_⟩
  · rw [E.up h hl, if_pos rfl]
  · intro _; rw [E.r h hl, if_pos rfl]
  · have k1 : k ≠ h := fun e => hk (e ▸ m1)
    have k2 : k ≠ u := fun e => hk (e ▸ m2)
    refine ⟨?_, by rw [if_neg k1, if_neg k2]⟩
    rw [turn5_other _ _ _ _ _ _ _ _ _ _ k1 k2]
    by_cases c0 : (nd h).l = 0
    · by_cases o0 : (nd u).up = 0
      · by_cases kk : k = 0
        · unfold turn3 hangN turn1; simp [c0, o0, hu0, upd, kk, Ne.symm h0, Ne.symm hu0]
        · exact turn3_other _ k1 k2 (by rw [c0]; exact kk) (by rw [o0]; exact kk)
      · by_cases kk : k = 0
        · unfold turn3 hangN turn1 hangN; simp [c0, o0, hu0, upd, kk, Ne.symm h0, Ne.symm hu0, Ne.symm o0, h0]
        · exact turn3_other _ k1 k2 (by rw [c0]; exact kk) (fun e => hk (e ▸ m3 o0))
    · have k3 : k ≠ (nd h).l := fun e => hk (e ▸ m4 c0)
      by_cases o0 : (nd u).up = 0
      · unfold turn3
        rw [hangN_other _ k1 k2, hangN_other _ k2 k3]
        unfold turn1
        rw [if_pos o0, upd_other _ _ k1]
      · exact turn3_other _ k1 k2 k3 (fun e => hk (e ▸ m3 o0))

end Go.Proofs.Ythdmajddmajjoaa
