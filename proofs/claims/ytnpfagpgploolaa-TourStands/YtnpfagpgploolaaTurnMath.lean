/- What the steps of a turn make of the nodes. No program. -/
import Derived.Test.YtnpfagpgploolaaReckon
namespace Go.Proofs.Ytnpfagpgploolaa
open Go.ChangeShapes Go.WideShapes Go.ChangeAt Go.RowKit
set_option linter.unusedVariables false

theorem hangN_l (nd : Nat → Nd) (h s b k : Nat) : (hangN nd h s b k).l = if k = h ∧ s = 0 then b else (nd k).l := by
  unfold hangN upd Nd.setCh Nd.setUp
  by_cases h1 : b = 0 <;> by_cases h2 : k = h <;> by_cases h3 : s = 0 <;> by_cases h4 : k = b <;> simp_all
theorem hangN_r (nd : Nat → Nd) (h s b k : Nat) : (hangN nd h s b k).r = if k = h ∧ s ≠ 0 then b else (nd k).r := by
  unfold hangN upd Nd.setCh Nd.setUp
  by_cases h1 : b = 0 <;> by_cases h2 : k = h <;> by_cases h3 : s = 0 <;> by_cases h4 : k = b <;> simp_all
theorem hangN_up (nd : Nat → Nd) (h s b k : Nat) : (hangN nd h s b k).up = if k = b ∧ b ≠ 0 then h else (nd k).up := by
  unfold hangN upd Nd.setCh Nd.setUp
  by_cases h1 : b = 0 <;> by_cases h2 : k = h <;> by_cases h3 : s = 0 <;> by_cases h4 : k = b <;> simp_all
theorem hangN_rest (nd : Nat → Nd) (h s b k : Nat) : (hangN nd h s b k).it = (nd k).it ∧ (hangN nd h s b k).size = (nd k).size ∧ (hangN nd h s b k).ag = (nd k).ag := by
  unfold hangN upd Nd.setCh Nd.setUp
  by_cases h1 : b = 0 <;> by_cases h2 : k = h <;> by_cases h3 : s = 0 <;> by_cases h4 : k = b <;> simp_all
theorem hangN_other (nd : Nat → Nd) {h s b k : Nat} (h1 : k ≠ h) (h2 : k ≠ b) : hangN nd h s b k = nd k := by
  unfold hangN
  split
  · exact upd_other _ _ h1
  · rw [upd_other _ _ h2, upd_other _ _ h1]
/-- The first step of a turn: what hung on the upper node's own place. -/
def turn1 (nd : Nat → Nd) (h u ov : Nat) : Nat → Nd := if ov = 0 then upd nd h ((nd h).setUp 0) else hangN nd ov (if (nd ov).l = u then 0 else 1) h
theorem turn1_l (nd : Nat → Nd) (h u ov k : Nat) : (turn1 nd h u ov k).l = if k = ov ∧ ov ≠ 0 ∧ (nd ov).l = u then h else (nd k).l := by
  unfold turn1
  split
  · next e => simp [e, upd, Nd.setUp]; split <;> simp_all
  · next e => rw [hangN_l]; by_cases e2 : (nd ov).l = u <;> simp [e, e2]
theorem turn1_r (nd : Nat → Nd) (h u ov k : Nat) : (turn1 nd h u ov k).r = if k = ov ∧ ov ≠ 0 ∧ (nd ov).l ≠ u then h else (nd k).r := by
  unfold turn1
  split
  · next e => simp [e, upd, Nd.setUp]; split <;> simp_all
  · next e => rw [hangN_r]; by_cases e2 : (nd ov).l = u <;> simp [e, e2]
theorem turn1_up (nd : Nat → Nd) {h : Nat} (h0 : h ≠ 0) (u ov k : Nat) : (turn1 nd h u ov k).up = if k = h then ov else (nd k).up := by
  unfold turn1
  split
  · next e => simp [e, upd, Nd.setUp]; split <;> simp_all
  · next e => rw [hangN_up]; simp [h0]
theorem turn1_rest (nd : Nat → Nd) (h u ov k : Nat) : (turn1 nd h u ov k).it = (nd k).it ∧ (turn1 nd h u ov k).size = (nd k).size ∧ (turn1 nd h u ov k).ag = (nd k).ag := by
  unfold turn1
  split
  · next e => simp [upd, Nd.setUp]; split <;> simp_all
  · exact hangN_rest nd _ _ _ k
theorem turn1_other (nd : Nat → Nd) {h u ov k : Nat} (h1 : k ≠ h) (h2 : k ≠ ov) : turn1 nd h u ov k = nd k := by
  unfold turn1
  split
  · exact upd_other _ _ h1
  · exact hangN_other _ h2 h1
def turn3 (nd : Nat → Nd) (h u s m ov : Nat) : Nat → Nd := hangN (hangN (turn1 nd h u ov) u s m) h (1 - s) u
theorem turn3_rest (nd : Nat → Nd) (h u s m ov k : Nat) : (turn3 nd h u s m ov k).it = (nd k).it ∧ (turn3 nd h u s m ov k).size = (nd k).size ∧ (turn3 nd h u s m ov k).ag = (nd k).ag := by
  unfold turn3
  have h1 := hangN_rest (hangN (turn1 nd h u ov) u s m) h (1 - s) u k
  have h2 := hangN_rest (turn1 nd h u ov) u s m k
  have h3 := turn1_rest nd h u ov k
  exact ⟨h1.1.trans (h2.1.trans h3.1), h1.2.1.trans (h2.2.1.trans h3.2.1), h1.2.2.trans (h2.2.2.trans h3.2.2)⟩
theorem turn3_other (nd : Nat → Nd) {h u s m ov k : Nat} (h1 : k ≠ h) (h2 : k ≠ u) (h3 : k ≠ m) (h4 : k ≠ ov) : turn3 nd h u s m ov k = nd k := by
  unfold turn3
  rw [hangN_other _ h1 h2, hangN_other _ h2 h3, turn1_other _ h1 h4]
/-- All steps. -/
def turn5 (nd : Nat → Nd) (h u s m ov su sh : Nat) (au ah : Ag) : Nat → Nd :=
  upd (upd (turn3 nd h u s m ov) u ((turn3 nd h u s m ov u).setSum su au)) h ((upd (turn3 nd h u s m ov) u ((turn3 nd h u s m ov u).setSum su au) h).setSum sh ah)
theorem turn5_links (nd : Nat → Nd) (h u s m ov su sh : Nat) (au ah : Ag) (k : Nat) : (turn5 nd h u s m ov su sh au ah k).l = (turn3 nd h u s m ov k).l ∧ (turn5 nd h u s m ov su sh au ah k).r = (turn3 nd h u s m ov k).r ∧ (turn5 nd h u s m ov su sh au ah k).up = (turn3 nd h u s m ov k).up ∧ (turn5 nd h u s m ov su sh au ah k).it = (turn3 nd h u s m ov k).it := by
  unfold turn5 upd Nd.setSum
  by_cases h1 : k = h <;> by_cases h2 : k = u <;> simp_all
theorem turn5_other (nd : Nat → Nd) (h u s m ov su sh : Nat) (au ah : Ag) {k : Nat} (h1 : k ≠ h) (h2 : k ≠ u) : turn5 nd h u s m ov su sh au ah k = turn3 nd h u s m ov k := by
  unfold turn5
  rw [upd_other _ _ h1, upd_other _ _ h2]
theorem turn5_h (nd : Nat → Nd) (h u s m ov su sh : Nat) (au ah : Ag) : (turn5 nd h u s m ov su sh au ah h).size = sh ∧ (turn5 nd h u s m ov su sh au ah h).ag = ah := by
  unfold turn5
  rw [upd_same]
  exact ⟨rfl, rfl⟩
theorem turn5_u (nd : Nat → Nd) (h u s m ov su sh : Nat) (au ah : Ag) (hu : u ≠ h) : (turn5 nd h u s m ov su sh au ah u).size = su ∧ (turn5 nd h u s m ov su sh au ah u).ag = au := by
  unfold turn5
  rw [upd_other _ _ hu, upd_same]
  exact ⟨rfl, rfl⟩

variable {live : Nat → Prop} {N : Nat} {nd : Nat → Nd} {T S : Nat → List Nat}

/-- Who stands near a node that hangs on another one. -/
structure Near (live : Nat → Prop) (nd : Nat → Nd) (h u ov : Nat) : Prop where
  lu : live u
  hu : h ≠ u
  l1 : (nd h).l ≠ h
  l2 : (nd h).l ≠ u
  r1 : (nd h).r ≠ h
  r2 : (nd h).r ≠ u
  ul : (nd u).l ≠ u
  ur : (nd u).r ≠ u
  o1 : ov ≠ h
  o2 : ov ≠ u
  ol : (nd h).l ≠ 0 → (nd h).l ≠ ov
  or : (nd h).r ≠ 0 → (nd h).r ≠ ov
  inl : ∀ k, live k → (nd k).l = u → k = ov ∧ ov ≠ 0
  inr : ∀ k, live k → (nd k).r = u → k = ov ∧ ov ≠ 0
  both : ov ≠ 0 → live ov ∧ ((nd ov).l = u ∨ (nd ov).r = u)
  lr : ov ≠ 0 → (nd ov).l = u → (nd ov).r ≠ u
theorem Tr.near (H : Tr live N nd T S) {h u : Nat} (hl : live h) (hu : (nd h).up = u) (hu0 : u ≠ 0) : Near live nd h u (nd u).up := by
  obtain ⟨lu, hSu, hc⟩ := H.u h hl (by rw [hu]; exact hu0)
  rw [hu] at lu hSu hc
  have lenu := H.len lu
  have lenh := H.len hl
  have hlt := H.up_lt hl (by rw [hu]; exact hu0)
  rw [hu] at hlt
  have hov : (nd u).up ≠ 0 → (T u).length < (T (nd u).up).length := fun e => H.up_lt lu e
  have h0 := H.ne0 hl
  have small : ∀ c, (T c).length < (T u).length → c ≠ 0 → c ≠ (nd u).up := fun c hc c0 e => by
    have := hov (by rw [← e]; exact c0)
    rw [← e] at this; omega
  refine ⟨lu, fun e => by rw [e] at hlt; omega, fun e => by rw [e] at lenh; omega, fun e => by rw [e] at lenh; omega, fun e => by rw [e] at lenh; omega, fun e => by rw [e] at lenh; omega, fun e => by rw [e] at lenu; omega, fun e => by rw [e] at lenu; omega,
    fun e => small h hlt h0 e.symm, fun e => by have := hov (by rw [e]; exact hu0); rw [e] at this; omega, fun e => small _ (by omega) e, fun e => small _ (by omega) e, ?_, ?_, ?_, ?_⟩
  · intro k lk e
    have := (H.l k lk (by rw [e]; exact hu0)).2
    rw [e] at this
    exact ⟨this.symm, by rw [this]; exact H.ne0 lk⟩
  · intro k lk e
    have := (H.r k lk (by rw [e]; exact hu0)).2
    rw [e] at this
    exact ⟨this.symm, by rw [this]; exact H.ne0 lk⟩
  · intro e
    obtain ⟨p1, p2, p3⟩ := H.u u lu e
    exact ⟨p1, p3⟩
  · intro e e2 e3
    obtain ⟨p1, p2, p3⟩ := H.u u lu e
    exact H.lr p1 (by rw [e2]; exact hu0) (e2.trans e3.symm)

theorem turn3R {h u ov : Nat} (H : Near live nd h u ov) (h0 : h ≠ 0) (hu0 : u ≠ 0) (k : Nat) (lk : live k) :
    (turn3 nd h u 0 (nd h).r ov k).l = (if k = h then (nd h).l else if k = u then (nd h).r else if (nd k).l = u then h else (nd k).l) ∧
    (turn3 nd h u 0 (nd h).r ov k).r = (if k = h then u else if k = u then (nd u).r else if (nd k).r = u then h else (nd k).r) ∧
    (k ≠ 0 → (turn3 nd h u 0 (nd h).r ov k).up = (if k = h then ov else if k = u then h else if k = (nd h).r then u else (nd k).up)) := by
  obtain ⟨lu, hu, l1, l2, r1, r2, ul, ur, o1, o2, ol, or, inl, inr, both, lr⟩ := H
  refine ⟨?_, ?_, ?_⟩
  · unfold turn3
    simp only [hangN_l, turn1_l]
    by_cases k1 : k = h
    · subst k1
      simp [hu, Ne.symm o1]
    · by_cases k2 : k = u
      · subst k2; simp [k1]
      · simp only [k1, k2, false_and, if_false]
        by_cases k3 : (nd k).l = u
        · obtain ⟨e1, e2⟩ := inl k lk k3
          rw [e1] at k3 ⊢
          simp [e2, k3]
        · rw [if_neg k3, if_neg]
          rintro ⟨e1, e2, e3⟩
          rw [e1] at k3; exact k3 e3
  · unfold turn3
    simp only [hangN_r, turn1_r]
    by_cases k1 : k = h
    · subst k1; simp
    · by_cases k2 : k = u
      · subst k2
        simp [k1, Ne.symm o2]
      · simp only [k1, k2, false_and, if_false]
        by_cases k3 : (nd k).r = u
        · obtain ⟨e1, e2⟩ := inr k lk k3
          rw [e1] at k3 ⊢
          have : (nd ov).l ≠ u := fun e => lr e2 e k3
          simp [e2, k3, this]
        · rw [if_neg k3, if_neg]
          rintro ⟨e1, e2, e3⟩
          rw [e1] at k3
          rcases (both e2).2 with e | e
          · exact e3 e
          · exact k3 e
  · intro k0
    unfold turn3
    simp only [hangN_up, turn1_up nd h0]
    by_cases k1 : k = h
    · subst k1
      simp [hu, Ne.symm r1]
    · by_cases k2 : k = u
      · subst k2; simp [k1, k0]
      · simp only [k1, k2, false_and, if_false]
        by_cases k3 : k = (nd h).r
        · rw [if_pos k3, if_pos ⟨k3, by rw [← k3]; exact k0⟩]
        · rw [if_neg k3, if_neg]
          rintro ⟨e, _⟩; exact k3 e
theorem turn3L {h u ov : Nat} (H : Near live nd h u ov) (h0 : h ≠ 0) (hu0 : u ≠ 0) (k : Nat) (lk : live k) :
    (turn3 nd h u 1 (nd h).l ov k).l = (if k = h then u else if k = u then (nd u).l else if (nd k).l = u then h else (nd k).l) ∧
    (turn3 nd h u 1 (nd h).l ov k).r = (if k = h then (nd h).r else if k = u then (nd h).l else if (nd k).r = u then h else (nd k).r) ∧
    (k ≠ 0 → (turn3 nd h u 1 (nd h).l ov k).up = (if k = h then ov else if k = u then h else if k = (nd h).l then u else (nd k).up)) := by
  obtain ⟨lu, hu, l1, l2, r1, r2, ul, ur, o1, o2, ol, or, inl, inr, both, lr⟩ := H
  refine ⟨?_, ?_, ?_⟩
  · unfold turn3
    simp only [hangN_l, turn1_l]
    by_cases k1 : k = h
    · subst k1; simp
    · by_cases k2 : k = u
      · subst k2; simp [k1, Ne.symm o2]
      · simp only [k1, k2, false_and, if_false]
        by_cases k3 : (nd k).l = u
        · obtain ⟨e1, e2⟩ := inl k lk k3
          rw [e1] at k3 ⊢
          simp [e2, k3]
        · rw [if_neg k3, if_neg]
          rintro ⟨e1, e2, e3⟩
          rw [e1] at k3; exact k3 e3
  · unfold turn3
    simp only [hangN_r, turn1_r]
    by_cases k1 : k = h
    · subst k1; simp [hu, Ne.symm o1]
    · by_cases k2 : k = u
      · subst k2
        simp [k1]
      · simp only [k1, k2, false_and, if_false]
        by_cases k3 : (nd k).r = u
        · obtain ⟨e1, e2⟩ := inr k lk k3
          rw [e1] at k3 ⊢
          have : (nd ov).l ≠ u := fun e => lr e2 e k3
          simp [e2, k3, this]
        · rw [if_neg k3, if_neg]
          rintro ⟨e1, e2, e3⟩
          rw [e1] at k3
          rcases (both e2).2 with e | e
          · exact e3 e
          · exact k3 e
  · intro k0
    unfold turn3
    simp only [hangN_up, turn1_up nd h0]
    by_cases k1 : k = h
    · subst k1
      simp [hu, Ne.symm l1]
    · by_cases k2 : k = u
      · subst k2; simp [k1, k0]
      · simp only [k1, k2, false_and, if_false]
        by_cases k3 : k = (nd h).l
        · rw [if_pos k3, if_pos ⟨k3, by rw [← k3]; exact k0⟩]
        · rw [if_neg k3, if_neg]
          rintro ⟨e, _⟩; exact k3 e

end Go.Proofs.Ytnpfagpgploolaa
