/- An edge more: chains. No program. -/
import Derived.Test.YtffmlffhiimmdaaAlt
namespace Go.Proofs.Ytffmlffhiimmdaa
open Go.ChangeShapes Go.WideShapes Go.ChangeAt Go.RowKit Go.Maps
set_option linter.unusedVariables false
variable {n : Nat} {ed : Nat → Option Ed} {R : Nat → List Nat} {live : Nat → Prop}

/-- U's tree, rooted at U, hangs by e below V. -/
def linkR (R : Nat → List Nat) (U V e : Nat) : Nat → List Nat := fun x => if x = e then R V ++ [e] else if (R x).head? = (R U).head? then R V ++ e :: turnR R U x else R x
theorem turnR_in {U x : Nat} (h : OneT R x U) : turnR R U x = tn (R U) (R x) := if_pos h
theorem turnR_out {U x : Nat} (h : ¬ OneT R x U) : turnR R U x = R x := if_neg h
theorem Rt.turn_head (hT : Rt live R) {U x : Nat} (lU : live U) (lx : live x) (o : OneT R x U) : (turnR R U x).head? = some U := by
  obtain ⟨r, h1, _, _⟩ := hT.head lU
  obtain ⟨p, hp⟩ := hT.last U lU
  unfold turnR
  rw [if_pos o]
  exact tn_head _ _ r U p h1 (o.trans h1) hp
theorem link_eq (hT : Rt live R) {U V e : Nat} (lU : live U) (lV : live V) (ne : ¬ live e) (hd : (R U).head? ≠ (R V).head?) {x : Nat} (lx : addL live e x) :
    hungR (hungR (turnR (upd R e [e]) U) U e) e V x = linkR R U V e x := by
  have old : ∀ k, live k → k ≠ e := fun k lk q => ne (q ▸ lk)
  have r0 : ∀ k, live k → upd R e [e] k = R k := fun k lk => upd_other _ _ (old k lk)
  have he : ∀ k, live k → (R k).head? ≠ some e := fun k lk q => by
    obtain ⟨r, h1, h2, _⟩ := hT.head lk
    rw [q] at h1; simp at h1; exact ne (h1 ▸ h2)
  have b1 : ∀ k, live k → turnR (upd R e [e]) U k = turnR R U k := fun k lk => by
    by_cases oo : OneT R k U
    · have o2 : OneT (upd R e [e]) k U := by unfold OneT; rw [r0 k lk, r0 U lU]; exact oo
      rw [turnR_in oo, turnR_in o2, r0 k lk, r0 U lU]
    · have o2 : ¬ OneT (upd R e [e]) k U := by unfold OneT; rw [r0 k lk, r0 U lU]; exact oo
      rw [turnR_out oo, turnR_out o2, r0 k lk]
  have be : turnR (upd R e [e]) U e = [e] := by
    have o2 : ¬ OneT (upd R e [e]) e U := by unfold OneT; rw [upd_same, r0 U lU]; exact fun q => he U lU q.symm
    rw [turnR_out o2, upd_same]
  have bU : turnR (upd R e [e]) U U = [U] := by rw [b1 U lU]; exact hT.turn_n lU
  have c1 : ∀ k, live k → hungR (turnR (upd R e [e]) U) U e k = if (R k).head? = (R U).head? then e :: turnR R U k else R k := fun k lk => by
    unfold hungR
    rw [b1 k lk, bU, be]
    by_cases o : (R k).head? = (R U).head?
    · rw [if_pos o, if_pos (by rw [hT.turn_head lU lk o]; rfl)]; rfl
    · rw [if_neg o]
      have e1 : turnR R U k = R k := turnR_out o
      rw [e1, if_neg]
      intro q
      have q : (R k).head? = some U := q
      refine o ?_
      have m : U ∈ R k := by
        cases h : R k with
        | nil => rw [h] at q; simp at q
        | cons c C => rw [h] at q; simp at q; rw [q]; simp
      obtain ⟨t, ht⟩ := hT.pre k lk U m
      obtain ⟨p, hp⟩ := hT.last U lU
      rw [ht, hp]; simp [List.head?_append]
  have ce : hungR (turnR (upd R e [e]) U) U e e = [e] := by
    unfold hungR
    rw [be, bU, if_neg]; simp; exact fun q => old U lU q.symm
  have cV : hungR (turnR (upd R e [e]) U) U e V = R V := by rw [c1 V lV, if_neg (Ne.symm hd)]
  generalize hungR (turnR (upd R e [e]) U) U e = C at c1 ce cV
  unfold linkR hungR
  rw [ce, cV]
  rcases lx with lx | rfl
  · rw [if_neg (old x lx), c1 x lx]
    by_cases o : (R x).head? = (R U).head?
    · rw [if_pos o, if_pos (by simp)]; rw [if_pos o]
    · rw [if_neg o, if_neg (show ¬ (R x).head? = [e].head? from he x lx)]; rw [if_neg o]
  · rw [if_pos rfl, ce, if_pos rfl]
theorem Alt.link (A : Alt n ed R) (ok : EdOk n ed) (hT : Rt (liveN n ed) R) {u v i : Nat} {wt : Int} (hu : u < n) (hv : v < n) (ni : ed i = none) (hd : (R (2 * u + 1)).head? ≠ (R (2 * v + 1)).head?) :
    Alt n (upd ed i (some ⟨u, v, wt⟩)) (linkR R (2 * u + 1) (2 * v + 1) (2 * i + 2)) := by
  have At := A.turn ok hT hu
  have lu : liveN n ed (2 * u + 1) := liveN_v hu
  have lv : liveN n ed (2 * v + 1) := liveN_v hv
  have rV : linkR R (2 * u + 1) (2 * v + 1) (2 * i + 2) (2 * v + 1) = R (2 * v + 1) := by unfold linkR; rw [if_neg (by omega), if_neg (Ne.symm hd)]
  have rE : linkR R (2 * u + 1) (2 * v + 1) (2 * i + 2) (2 * i + 2) = R (2 * v + 1) ++ [2 * i + 2] := by unfold linkR; rw [if_pos rfl]
  have rU : linkR R (2 * u + 1) (2 * v + 1) (2 * i + 2) (2 * u + 1) = R (2 * v + 1) ++ (2 * i + 2) :: [2 * u + 1] := by unfold linkR; rw [if_neg (by omega), if_pos rfl, hT.turn_n lu]
  have rin : ∀ k, k ≠ 2 * i + 2 → (R k).head? = (R (2 * u + 1)).head? → linkR R (2 * u + 1) (2 * v + 1) (2 * i + 2) k = R (2 * v + 1) ++ (2 * i + 2) :: turnR R (2 * u + 1) k := fun k k1 k2 => by unfold linkR; rw [if_neg k1, if_pos k2]
  have rout : ∀ k, k ≠ 2 * i + 2 → (R k).head? ≠ (R (2 * u + 1)).head? → linkR R (2 * u + 1) (2 * v + 1) (2 * i + 2) k = R k := fun k k1 k2 => by unfold linkR; rw [if_neg k1, if_neg k2]
  refine ⟨fun j x hx => ?_, fun y hy => ?_⟩
  · by_cases ji : j = i
    · subst ji
      rw [upd_same] at hx
      simp at hx
      subst hx
      exact ⟨v, u, .inr ⟨rfl, rfl⟩, by rw [rE, rV], by rw [rU, rE]; simp⟩
    · rw [upd_other _ _ ji] at hx
      obtain ⟨_, o1, o2, _⟩ := ok j x hx
      have lj : liveN n ed (2 * j + 2) := liveN_e.2 (by rw [hx]; rfl)
      by_cases o : (R (2 * j + 2)).head? = (R (2 * u + 1)).head?
      · obtain ⟨a, b, ab, ea, eb⟩ := A.e j x hx
        have ha : (R (2 * a + 1)).head? = (R (2 * u + 1)).head? := by
          rw [← o]; exact hT.head_of lj (by rw [ea]; obtain ⟨p, hp⟩ := hT.last _ (liveN_v (ed := ed) (show a < n by omega)); rw [hp]; simp)
        have hb : (R (2 * b + 1)).head? = (R (2 * u + 1)).head? := by
          rw [← o]; exact (hT.head_of (liveN_v (show b < n by omega)) (by rw [eb]; obtain ⟨p, hp⟩ := hT.last _ lj; rw [hp]; simp)).symm
        obtain ⟨c, d, cd, ec, edd⟩ := At.e j x hx
        have hc : (R (2 * c + 1)).head? = (R (2 * u + 1)).head? := by
          rcases (show c = a ∨ c = b by omega) with q | q <;> rw [q] <;> assumption
        have hdd : (R (2 * d + 1)).head? = (R (2 * u + 1)).head? := by
          rcases (show d = a ∨ d = b by omega) with q | q <;> rw [q] <;> assumption
        exact ⟨c, d, cd, by rw [rin _ (by omega) o, rin _ (by omega) hc, ec]; simp, by rw [rin _ (by omega) hdd, rin _ (by omega) o, edd]; simp⟩
      · obtain ⟨a, b, ab, ea, eb⟩ := A.e j x hx
        have ha : (R (2 * a + 1)).head? ≠ (R (2 * u + 1)).head? := fun z => o (by
          rw [← z]; exact (hT.head_of lj (by rw [ea]; obtain ⟨p, hp⟩ := hT.last _ (liveN_v (ed := ed) (show a < n by omega)); rw [hp]; simp)).symm)
        have hb : (R (2 * b + 1)).head? ≠ (R (2 * u + 1)).head? := fun z => o (by
          rw [← z]; exact hT.head_of (liveN_v (show b < n by omega)) (by rw [eb]; obtain ⟨p, hp⟩ := hT.last _ lj; rw [hp]; simp))
        exact ⟨a, b, ab, by rw [rout _ (by omega) o, rout _ (by omega) ha, ea], by rw [rout _ (by omega) hb, rout _ (by omega) o, eb]⟩
  · have ly : liveN n ed (2 * y + 1) := liveN_v hy
    by_cases o : (R (2 * y + 1)).head? = (R (2 * u + 1)).head?
    · rcases At.v y hy with q | ⟨j, x, hx, hyx, q⟩
      · refine .inr ⟨i, ⟨u, v, wt⟩, upd_same _ _ _, .inl ?_, ?_⟩
        · have := hT.turn_head lu ly o
          rw [q] at this; simp at this; show y = u; omega
        · rw [rin _ (by omega) o, q, rE]; simp
      · have ji : j ≠ i := fun z => by rw [z, ni] at hx; simp at hx
        have lj : liveN n ed (2 * j + 2) := liveN_e.2 (by rw [hx]; rfl)
        have hT2 := hT.turn lu
        have hj : (R (2 * j + 2)).head? = (R (2 * u + 1)).head? := by
          have m : 2 * j + 2 ∈ turnR R (2 * u + 1) (2 * y + 1) := by
            rw [q]; obtain ⟨p, hp⟩ := hT2.last _ lj; rw [hp]; simp
          have h1 := hT2.head_of ly m
          rw [hT.turn_head lu ly o] at h1
          apply Classical.byContradiction
          intro z
          have z2 : turnR R (2 * u + 1) (2 * j + 2) = R (2 * j + 2) := turnR_out z
          rw [z2] at h1
          have m2 : 2 * u + 1 ∈ R (2 * j + 2) := by
            cases h : R (2 * j + 2) with
            | nil => rw [h] at h1; simp at h1
            | cons c C => rw [h] at h1; simp at h1; rw [h1]; simp
          exact z (hT.head_of lj m2).symm
        exact .inr ⟨j, x, by rw [upd_other _ _ ji]; exact hx, hyx, by rw [rin _ (by omega) o, rin _ (by omega) hj, q]; simp⟩
    · rcases A.v y hy with q | ⟨j, x, hx, hyx, q⟩
      · exact .inl (by rw [rout _ (by omega) o]; exact q)
      · have ji : j ≠ i := fun z => by rw [z, ni] at hx; simp at hx
        have lj : liveN n ed (2 * j + 2) := liveN_e.2 (by rw [hx]; rfl)
        have hj : (R (2 * j + 2)).head? ≠ (R (2 * u + 1)).head? := fun z => o (by
          rw [← z]; exact (hT.head_of ly (by rw [q]; obtain ⟨p, hp⟩ := hT.last _ lj; rw [hp]; simp)).symm)
        exact .inr ⟨j, x, by rw [upd_other _ _ ji]; exact hx, hyx, by rw [rout _ (by omega) o, rout _ (by omega) hj]; exact q⟩
theorem liveN_link (i : Nat) (x : Ed) : liveN n (upd ed i (some x)) = addL (liveN n ed) (2 * i + 2) := by
  funext k; apply propext; unfold addL liveN
  by_cases e : k % 2 = 0
  · rw [if_pos e, if_pos e]
    by_cases q : (k - 2) / 2 = i
    · rw [q, upd_same]; simp; omega
    · rw [upd_other _ _ q]
      constructor
      · exact .inl
      · rintro (h | h)
        · exact h
        · omega
  · rw [if_neg e, if_neg e]; omega

end Go.Proofs.Ytffmlffhiimmdaa
