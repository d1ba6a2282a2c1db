/- What expose's step leaves. No program. -/
import Derived.Test.YtffmlffhiimmdaaLift5
namespace Go.Proofs.Ytffmlffhiimmdaa
open Go.ChangeShapes Go.WideShapes Go.ChangeAt Go.RowKit
set_option linter.unusedVariables false
variable {live : Nat → Prop} {nd : Nat → Ln} {T S R : Nat → List Nat} {P hv : Nat → Nat} {E : Nat → Ed} {a b : Nat}

theorem Rc.swapped (H : Lc live nd T S P) (hR : Rc live S P R) (la : live a) (hta : T a = S a) (tw : (nd a).tw = false) (hb : b = 0 ∨ (live b ∧ T b = S b ∧ (nd b).up = a ∧ P b = a)) :
    Rc live (swapS nd T S a b) (swapP nd T P a b) R := by
  obtain ⟨f1, f2⟩ := Rc.swap H hR la hta tw hb
  have a0 := H.ne0 la
  have Ta : T a = T (nd a).l ++ a :: T (nd a).r := by rw [H.t a la, if_neg (by simp [tw])]
  intro h lh A x B e
  unfold swapS at e
  unfold swapP
  split at e
  · rename_i q
    rw [if_pos q, if_neg a0]
    exact f1 A x B e
  · rename_i q
    rw [if_neg q]
    split at e
    · rename_i q2
      have : (if h ∈ T b then P a else P h) = P a := by
        split
        · rfl
        · rename_i q3
          have : h ∈ S a := by
            rw [← hta, Ta]
            rcases q2 with y | y | y
            · exact List.mem_append_left _ y
            · exact List.mem_append_right _ (y ▸ List.mem_cons_self)
            · exact absurd y q3
          exact (H.mem a la h this).2.2
      rw [this]
      exact f2 A x B e
    · rename_i q2
      rw [if_neg (fun y => q2 (.inr (.inr y)))]
      exact hR h lh A x B e
theorem Hv.swap (H : Lc live nd T S P) (V : Hv E live T hv) (la : live a) (lb : b ≠ 0 → live b) : Hv E live (swapT nd T a b) (upd hv a (reckN E (swapN nd a b) hv a)) := fun k lk => by
  unfold upd
  by_cases e : k = a
  · subst e
    rw [if_pos rfl]
    have e1 : swapT nd T k b k = T (nd k).l ++ k :: T b := by unfold swapT; rw [if_pos rfl]
    have e2 : swapN nd k b k = ⟨(nd k).up, (nd k).l, b, (nd k).tw⟩ := by unfold swapN; rw [if_pos rfl]
    rw [e1]
    refine reck_top (c := 0) (d := 0) (H.ne0 la) ?_ ?_ <;> rw [e2]
    · exact V.at H (H.cl k la).2.1
    · exact V.at H lb
  · rw [if_neg e]
    unfold swapT
    rw [if_neg e]; exact V k lk
theorem swapS_a (H : Lc live nd T S P) (la : live a) (tw : (nd a).tw = false) : swapS nd T S a b a = T (nd a).l ++ a :: T b ∧ swapP nd T P a b a = P a := by
  have Ta : T a = T (nd a).l ++ a :: T (nd a).r := by rw [H.t a la, if_neg (by simp [tw])]
  have n1 := H.nodup a la
  rw [Ta, List.nodup_append] at n1
  have : a ∉ T (nd a).r := (List.nodup_cons.1 n1.2.1).1
  refine ⟨?_, ?_⟩
  · unfold swapS; rw [if_neg this, if_pos (.inr (.inl rfl))]
  · unfold swapP; rw [if_neg this]; split <;> rfl

end Go.Proofs.Ytffmlffhiimmdaa
