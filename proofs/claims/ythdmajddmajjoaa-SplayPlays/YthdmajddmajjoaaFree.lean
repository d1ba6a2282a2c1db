/- Free, Set, Split. -/
import Derived.Test.YthdmajddmajjoaaMake
namespace Go.Proofs.Ythdmajddmajjoaa
open Go.ChangeShapes Go.WideShapes Go.ChangeAt Go.RowKit
set_option linter.unusedVariables false

theorem freeOutF (w : World) (o : Nat → Nat) (L p room n : Nat) (free : List Nat) (it : Nat → It) (S : Nat → List Nat) (x : Int) (F : Fo w o L p room n free it S) (hb : hasB n free x = false) :
    Calls Try.prog 18 #[.pointer (some ⟨p, 0, none⟩), .int .i64 x] w fun e w' => e = .returned (.int .i64 31) ∧ w' = w := by
  obtain ⟨pt, nd, T, F, H, e⟩ := F
  have hc := nodeOut w o L p room n free pt nd x F hb
  clear F H e
  go_enter Try.func18, Try.ntmps18
  go_wp2_with fail
  refine hc.mono ?_
  rintro e w1 ⟨rfl, rfl⟩
  go_wp2
  go_ret
  exact ⟨rfl, rfl⟩

theorem Tr.alone {live : Nat → Prop} {N : Nat} {nd : Nat → Nd} {T S : Nat → List Nat} (H : Tr live N nd T S) {h : Nat} (hl : live h) : S h = [h] ↔ ((nd h).up = 0 ∧ (nd h).size ≤ 1) := by
  constructor
  · intro e
    obtain ⟨r, q1, q2, q3⟩ := H.topOf _ h (Nat.le_refl _) hl
    have : r ∈ S h := by rw [← q3]; exact H.self r q1
    rw [e] at this
    simp at this
    subst this
    exact ⟨q2, by rw [H.sz r q1, H.root r q1 q2, e]; simp⟩
  · rintro ⟨u, s⟩
    rw [H.sz h hl] at s
    have := H.len hl
    have l1 : (T (nd h).l) = [] := List.length_eq_zero_iff.1 (by omega)
    have l2 : (T (nd h).r) = [] := List.length_eq_zero_iff.1 (by omega)
    rw [← H.root h hl u, H.t h hl, l1, l2]; rfl

theorem freeBusyF (w : World) (o : Nat → Nat) (L p room n : Nat) (free : List Nat) (it : Nat → It) (S : Nat → List Nat) (a : Nat) (F : Fo w o L p room n free it S) (hl : Live n free a) (hb : S a ≠ [a]) :
    Calls Try.prog 18 #[.pointer (some ⟨p, 0, none⟩), .int .i64 a] w fun e w' => e = .returned (.int .i64 32) ∧ w' = w := by
  obtain ⟨pt, nd, T, F, H, e⟩ := F
  have hc := nodeIn w o L p room n free pt nd a F hl
  obtain ⟨_, c3, _, _, ⟨c6, _⟩, hf⟩ := (F.node hl).cells12
  have hal : ¬ ((nd a).up = 0 ∧ (nd a).size ≤ 1) := fun h => hb ((H.alone hl).2 h)
  clear F H e
  by_cases u0 : (nd a).up = 0
  · have hs : (1 : Int) < ((nd a).size : Int) := by have : ¬ (nd a).size ≤ 1 := fun h => hal ⟨u0, h⟩; omega
    rw [u0] at c3
    go_enter Try.func18, Try.ntmps18
    go_wp2_with fail
    refine hc.mono ?_
    rintro e w1 ⟨rfl, rfl⟩
    go_wp2
    go_ret
    exact ⟨rfl, rfl⟩
  · have u1 : (((nd a).up : Int) == 0) = false := by simp only [beq_eq_false_iff_ne, ne_eq]; omega
    have u2 : (((nd a).up : Int) != 0) = true := by simp only [bne_iff_ne, ne_eq]; omega
    go_enter Try.func18, Try.ntmps18
    go_wp2_with fail
    refine hc.mono ?_
    rintro e w1 ⟨rfl, rfl⟩
    go_wp2
    go_ret
    exact ⟨rfl, rfl⟩

theorem freeInF (w : World) (o : Nat → Nat) (L p room n : Nat) (free : List Nat) (it : Nat → It) (S : Nat → List Nat) (a : Nat) (F : Fo w o L p room n free it S) (hl : Live n free a) (hb : S a = [a]) :
    Calls Try.prog 18 #[.pointer (some ⟨p, 0, none⟩), .int .i64 a] w fun e w' => e = .returned (.int .i64 0) ∧ ∃ o', Fo w' o' L p room n (free ++ [a]) it S ∧ Step (FL L) w o w' o' := by
  obtain ⟨pt, nd, T, F, H, e⟩ := F
  have hc := nodeIn w o L p room n free pt nd a F hl
  obtain ⟨_, c3, _, _, ⟨c6, _⟩, hf⟩ := (F.node hl).cells12
  obtain ⟨u0, sz⟩ := (H.alone hl).1 hb
  have hs : ¬ (1 : Int) < ((nd a).size : Int) := by omega
  rw [u0] at c3
  have hlive : ∀ k, Live n (free ++ [a]) k ↔ (k ≠ a ∧ Live n free k) := fun k => by
    unfold Live
    simp only [List.mem_append, List.mem_singleton]
    constructor
    · rintro ⟨h1, h2, h3⟩; exact ⟨fun e => h3 (.inr e), h1, h2, fun e => h3 (.inl e)⟩
    · rintro ⟨h1, h2, h3, h4⟩; exact ⟨h2, h3, fun e => e.elim h4 h1⟩
  have HZ := H.free hl u0 hb hlive
  obtain ⟨pa, cs, h0, h1, h2, h3⟩ := F
  obtain ⟨b0, hb0⟩ := h0.cells1
  have ea : a - 1 + 1 = a := by have := hl.1; omega
  have hc2 := dropInNod w o (L + 1) pa room n cs free (a - 1) (by have := hl.1; have := hl.2.1; omega) hl.use h1
  rw [ea] at hc2
  go_enter Try.func18, Try.ntmps18
  go_wp2_with fail
  refine hc.mono ?_
  rintro e w1 ⟨rfl, rfl⟩
  go_wp2_with fail
  refine hc2.mono ?_
  rintro e w2 ⟨rfl, o2, A2, S2⟩
  have R : Fo w2 o2 L p room n (free ++ [a]) it S := by
    refine ⟨pt, nd, T, ⟨pa, _, h0.step S2 (fun h => by have := h.1; omega), A2, h2, fun k hk => ?_⟩, HZ, fun k hk => e k ((hlive k).1 hk).2⟩
    obtain ⟨k1, k2⟩ := (hlive k).1 hk
    obtain ⟨g1, g2⟩ := h3 k k2
    refine ⟨?_, g2.step S2 (fun h => by have := h.2; have := k2.1; omega)⟩
    rw [List.getElem?_set, if_neg]
    · exact g1
    · intro e; have := hl.1; have := k2.1; omega
  have RS := S2.mono (J := FL L) fun k hk => ⟨by have := hk.1; omega, by have := hk.2; omega⟩
  clear hc hc2 h0 h1 h3 A2 S2 HZ H
  go_wp2
  go_ret
  exact ⟨rfl, o2, R, RS⟩

end Go.Proofs.Ythdmajddmajjoaa
