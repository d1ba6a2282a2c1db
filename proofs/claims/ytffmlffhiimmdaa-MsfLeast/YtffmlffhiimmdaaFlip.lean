/- Paths and chains: a path that stands the other way round roots its tree anew. No program. -/
import Derived.Test.YtffmlffhiimmdaaSwap
namespace Go.Proofs.Ytffmlffhiimmdaa
set_option linter.unusedVariables false

variable {live : Nat → Prop} {nd : Nat → Ln} {T S : Nat → List Nat} {P : Nat → Nat}

def flipN (nd : Nat → Ln) (a : Nat) : Nat → Ln := fun k => if k = a then ⟨(nd a).up, (nd a).l, (nd a).r, !(nd a).tw⟩ else nd k
def flipT (T : Nat → List Nat) (a : Nat) : Nat → List Nat := fun k => if k = a then (T a).reverse else T k
def flipS (S : Nat → List Nat) (a : Nat) : Nat → List Nat := fun k => if k ∈ S a then (S a).reverse else S k
theorem Lc.flip (H : Lc live nd T S P) {a : Nat} (la : live a) (hta : T a = S a) (hpa : P a = (nd a).up) : Lc live (flipN nd a) (flipT T a) (flipS S a) P := by
  have noch := fun k lk => H.nochild la (k := k) lk hta
  have a0 := H.ne0 la
  have na : flipN nd a a = ⟨(nd a).up, (nd a).l, (nd a).r, !(nd a).tw⟩ := by unfold flipN; rw [if_pos rfl]
  have nk : ∀ k, k ≠ a → flipN nd a k = nd k := fun k q => by unfold flipN; rw [if_neg q]
  have lnk : ∀ k, (flipN nd a k).up = (nd k).up ∧ (flipN nd a k).l = (nd k).l ∧ (flipN nd a k).r = (nd k).r := fun k => by
    by_cases q : k = a
    · subst q; rw [na]; exact ⟨rfl, rfl, rfl⟩
    · rw [nk k q]; exact ⟨rfl, rfl, rfl⟩
  have ta : flipT T a a = (T a).reverse := by unfold flipT; rw [if_pos rfl]
  have tk : ∀ k, k ≠ a → flipT T a k = T k := fun k q => by unfold flipT; rw [if_neg q]
  have s1 : ∀ k, k ∈ S a → flipS S a k = (S a).reverse := fun k q => by unfold flipS; rw [if_pos q]
  have s2 : ∀ k, k ∉ S a → flipS S a k = S k := fun k q => by unfold flipS; rw [if_neg q]
  have same : ∀ k c, live k → live c → S c = S k → flipS S a c = flipS S a k := fun k c lk lc e => by
    by_cases q : k ∈ S a
    · have qc : c ∈ S a := by rw [← (H.mem a la k q).2.1, ← e]; exact H.self c lc
      rw [s1 k q, s1 c qc]
    · have qc : c ∉ S a := fun z => q (by rw [← (H.mem a la c z).2.1, e]; exact H.self k lk)
      rw [s2 k q, s2 c qc, e]
  refine ⟨H.nz, ?_, fun k lk => ?_, fun k lk h0 => ?_, fun k lk h0 => ?_, fun k lk h0 => ?_, fun k lk ht => ?_, fun k lk => ?_, fun k lk => ?_, fun k lk x hx => ?_, fun k lk hp => ?_, H.pl⟩
  · rw [tk 0 a0.symm]; exact H.t0
  · by_cases q : k = a
    · subst q
      rw [na, ta]
      simp only
      rw [tk _ (H.ne_l la), tk _ (H.ne_r la), H.t k la]
      cases (nd k).tw <;> simp
    · rw [nk k q, tk k q, tk _ (noch k lk).1, tk _ (noch k lk).2]; exact H.t k lk
  · obtain ⟨e1, e2, e3⟩ := lnk k
    rw [e2] at h0 ⊢
    obtain ⟨x, y, z⟩ := H.l k lk h0
    rw [(lnk _).1]
    exact ⟨x, y, same k _ lk x z⟩
  · obtain ⟨e1, e2, e3⟩ := lnk k
    rw [e3] at h0 ⊢
    obtain ⟨x, y, z⟩ := H.r k lk h0
    rw [(lnk _).1]
    exact ⟨x, y, same k _ lk x z⟩
  · rw [(lnk k).1] at h0 ⊢; exact H.u k lk h0
  · rw [(lnk k).1] at ht ⊢
    rw [(lnk _).2.1, (lnk _).2.2] at ht
    obtain ⟨x, y⟩ := H.top k lk ht
    refine ⟨?_, y⟩
    by_cases q : k = a
    · subst q; rw [ta, s1 k (H.self k la), hta]
    · rw [tk k q, s2 k (fun z => q (H.one la lk hta x (H.mem a la k z).2.1))]; exact x
  · by_cases q : k = a
    · subst q; rw [ta]; unfold List.Nodup; rw [List.pairwise_reverse]; exact (H.nodup k la).imp (fun h e => h e.symm)
    · rw [tk k q]; exact H.nodup k lk
  · by_cases q : k ∈ S a
    · rw [s1 k q]; simpa using q
    · rw [s2 k q]; exact H.self k lk
  · by_cases q : k ∈ S a
    · rw [s1 k q] at hx ⊢
      have hx2 : x ∈ S a := by simpa using hx
      have m := H.mem a la x hx2
      rw [s1 x hx2]
      exact ⟨m.1, rfl, by rw [m.2.2, (H.mem a la k q).2.2]⟩
    · rw [s2 k q] at hx ⊢
      have m := H.mem k lk x hx
      rw [s2 x (fun z => q (by rw [← (H.mem a la x z).2.1, m.2.1]; exact H.self k lk))]
      exact m
  · have hP := H.out k lk hp
    have lP := H.pl k lk hp
    intro e
    apply hP
    by_cases q : k ∈ S a
    · rw [s1 k q] at e
      by_cases z : P k ∈ S a
      · rw [(H.mem a la _ z).2.1, (H.mem a la k q).2.1]
      · rw [s2 _ z] at e
        have : k ∈ S (P k) := by rw [e]; simpa using q
        rw [(H.mem _ lP k this).2.1]
    · rw [s2 k q] at e
      by_cases z : P k ∈ S a
      · rw [s1 _ z] at e
        have : P k ∈ S k := by rw [← e]; simpa using z
        exact (H.mem k lk _ this).2.1
      · rw [s2 _ z] at e; exact e
/-- The chains are those of the tree, rooted anew. -/
theorem Rc.flip (H : Lc live nd T S P) {R : Nat → List Nat} (hT : Rt live R) (hR : Rc live S P R) {a : Nat} (la : live a) (he : S a = R a) (hp : P a = 0) : Rc live (flipS S a) P (turnR R a) := by
  have s1 : ∀ k, k ∈ S a → flipS S a k = (S a).reverse := fun k q => by unfold flipS; rw [if_pos q]
  have s2 : ∀ k, k ∉ S a → flipS S a k = S k := fun k q => by unfold flipS; rw [if_neg q]
  intro h lh A x B e
  by_cases q : h ∈ S a
  · rw [s1 h q] at e
    rw [(H.mem a la h q).2.2, hp, if_pos rfl]
    have e2 : R a = B.reverse ++ x :: A.reverse := by
      have := congrArg List.reverse e
      rw [List.reverse_reverse, he] at this
      rw [this]; simp
    have lx : live x := hT.mem a la x (by rw [e2]; simp)
    have e3 := hT.at (y := x) (A := B.reverse) (B := A.reverse) la e2
    rw [hT.turn_on (q := A.reverse) la lx (by rw [e2, e3]; simp)]
    simp
  · rw [s2 h q] at e
    have off : ∀ y ∈ S h, y ∉ R a := fun y hy z => q (by
      rw [← he] at z
      rw [← (H.mem a la y z).2.1, (H.mem h lh y hy).2.1]; exact H.self h lh)
    have key : ∀ (m : Nat) (A : List Nat) (x : Nat) (B : List Nat), A.length = m → S h = A ++ x :: B → turnR R a x = (if P h = 0 then [] else turnR R a (P h)) ++ A ++ [x] := by
      intro m
      induction m with
      | zero =>
        intro A x B hm e
        have hA : A = [] := List.eq_nil_of_length_eq_zero hm
        subst hA
        have rx := hR h lh [] x B e
        have hx : x ∈ S h := by rw [e]; simp
        have lx := (H.mem h lh x hx).1
        by_cases p0 : P h = 0
        · rw [if_pos p0] at rx ⊢
          have rx2 : R x = [x] := by simpa using rx
          have : ¬ OneT R x a := fun o => by
            unfold OneT at o
            rw [rx2] at o
            refine off x hx ?_
            cases hRa : R a with
            | nil => rw [hRa] at o; simp at o
            | cons r Z => rw [hRa] at o; simp at o; rw [o]; simp
          unfold turnR
          rw [if_neg this]; exact rx
        · rw [if_neg p0] at rx ⊢
          have := hT.turn_off la (H.pl h lh p0) lx (by rw [rx]; simp) (off x hx)
          rw [this]; simp
      | succ m ih =>
        intro A x B hm e
        rcases List.eq_nil_or_concat A with z | ⟨Z, y, z⟩
        · rw [z] at hm; simp at hm
        · rw [List.concat_eq_append] at z
          subst z
          have hx : x ∈ S h := by rw [e]; simp
          have hy : y ∈ S h := by rw [e]; simp
          have i1 := ih Z y (x :: B) (by simp at hm; exact hm) (by rw [e]; simp)
          have ry := hR h lh Z y (x :: B) (by rw [e]; simp)
          have rx := hR h lh (Z ++ [y]) x B e
          have := hT.turn_off la (H.mem h lh y hy).1 (H.mem h lh x hx).1 (by rw [rx, ry]; simp) (off x hx)
          rw [this, i1]; simp
    exact key A.length A x B rfl e

end Go.Proofs.Ytffmlffhiimmdaa
