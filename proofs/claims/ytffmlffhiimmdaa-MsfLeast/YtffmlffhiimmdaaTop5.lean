/- The heaviest edge of a list of nodes, by membership. No program. -/
import Derived.Test.YtffmlffhiimmdaaTurn5
namespace Go.Proofs.Ytffmlffhiimmdaa
open Go.ChangeShapes Go.WideShapes Go.ChangeAt Go.RowKit
set_option linter.unusedVariables false

def lighter (E : Nat → Ed) (k m : Nat) : Prop := (E k).w < (E m).w ∨ ((E k).w = (E m).w ∧ k < m)
/-- m is the heaviest edge of X, or 0 where it has none. -/
def TopE (E : Nat → Ed) (X : List Nat) (m : Nat) : Prop := (m = 0 ∧ ∀ k ∈ X, k % 2 = 1) ∨ (m ≠ 0 ∧ m ∈ X ∧ m % 2 = 0 ∧ ∀ k ∈ X, k % 2 = 0 → k = m ∨ lighter E k m)
variable {E : Nat → Ed} {X Y : List Nat} {a b m : Nat}
theorem TopE.congr (h : TopE E X m) (e : ∀ k, k ∈ Y ↔ k ∈ X) : TopE E Y m := by
  rcases h with ⟨h1, h2⟩ | ⟨h1, h2, h3, h4⟩
  · exact .inl ⟨h1, fun k hk => h2 k ((e k).1 hk)⟩
  · exact .inr ⟨h1, (e m).2 h2, h3, fun k hk => h4 k ((e k).1 hk)⟩
theorem TopE.nil : TopE E [] 0 := .inl ⟨rfl, fun k hk => by simp at hk⟩
theorem TopE.own {h : Nat} (h0 : h ≠ 0) : TopE E [h] (own h) := by
  unfold Go.Proofs.Ytffmlffhiimmdaa.own
  by_cases e : h % 2 = 0
  · rw [if_pos e]; exact .inr ⟨h0, by simp, e, fun k hk _ => .inl (by simpa using hk)⟩
  · rw [if_neg e]; exact .inl ⟨rfl, fun k hk => by simp at hk; subst hk; omega⟩
theorem lighter.trans {a b c : Nat} (h : lighter E a b) (k : lighter E b c) : lighter E a c := by unfold lighter at *; omega
theorem lighter.total (a b : Nat) : a = b ∨ lighter E a b ∨ lighter E b a := by unfold lighter; omega
theorem lighter.asymm {a b : Nat} (h : lighter E a b) : ¬ lighter E b a := by unfold lighter at *; omega
theorem TopE.hvr (ha : TopE E X a) (hb : TopE E Y b) : TopE E (X ++ Y) (hvr E a b) := by
  unfold Go.Proofs.Ytffmlffhiimmdaa.hvr
  rcases ha with ⟨a0, ha⟩ | ⟨a0, a1, a2, a3⟩
  · rw [if_pos a0]
    rcases hb with ⟨b0, hb⟩ | ⟨b0, b1, b2, b3⟩
    · exact .inl ⟨b0, fun k hk => by rcases List.mem_append.1 hk with q | q; exact ha k q; exact hb k q⟩
    · refine .inr ⟨b0, List.mem_append_right _ b1, b2, fun k hk e => ?_⟩
      rcases List.mem_append.1 hk with q | q
      · have := ha k q; omega
      · exact b3 k q e
  · rw [if_neg a0]
    rcases hb with ⟨b0, hb⟩ | ⟨b0, b1, b2, b3⟩
    · rw [if_pos b0]
      refine .inr ⟨a0, List.mem_append_left _ a1, a2, fun k hk e => ?_⟩
      rcases List.mem_append.1 hk with q | q
      · exact a3 k q e
      · have := hb k q; omega
    · rw [if_neg b0]
      by_cases c : (E b).w < (E a).w ∨ ((E a).w = (E b).w ∧ b < a)
      · rw [if_pos c]
        have c' : lighter E b a := by unfold lighter; omega
        refine .inr ⟨a0, List.mem_append_left _ a1, a2, fun k hk e => ?_⟩
        rcases List.mem_append.1 hk with q | q
        · exact a3 k q e
        · rcases b3 k q e with x | x
          · subst x; exact .inr c'
          · exact .inr (x.trans c')
      · rw [if_neg c]
        have c' : a = b ∨ lighter E a b := by unfold lighter; omega
        refine .inr ⟨b0, List.mem_append_right _ b1, b2, fun k hk e => ?_⟩
        rcases List.mem_append.1 hk with q | q
        · rcases a3 k q e with x | x
          · subst x; exact c'
          · rcases c' with y | y
            · subst y; exact .inr x
            · exact .inr (x.trans y)
        · exact b3 k q e
theorem TopE.uniq {n : Nat} (h : TopE E X m) (k : TopE E X n) : m = n := by
  rcases h with ⟨a0, ha⟩ | ⟨a0, a1, a2, a3⟩ <;> rcases k with ⟨b0, hb⟩ | ⟨b0, b1, b2, b3⟩
  · rw [a0, b0]
  · have := ha n b1; omega
  · have := hb m a1; omega
  · rcases a3 n b1 b2 with x | x
    · exact x.symm
    · rcases b3 m a1 a2 with y | y
      · exact y
      · exact absurd x (lighter.asymm y)
/-- Each node's heaviest edge is that of all below it. -/
def Hv (E : Nat → Ed) (live : Nat → Prop) (T : Nat → List Nat) (hv : Nat → Nat) : Prop := ∀ h, live h → TopE E (T h) (hv h)
variable {live : Nat → Prop} {nd : Nat → Ln} {T S : Nat → List Nat} {P hv : Nat → Nat} {h u : Nat}
theorem Hv.hc (H : Lc live nd T S P) (V : Hv E live T hv) : Hc live hv := fun h hl h0 => by
  rcases V h hl with ⟨a, _⟩ | ⟨_, a, b, _⟩
  · exact absurd a h0
  · exact ⟨(H.sub hl a).1, b⟩
theorem reck_top {c d : Nat} {C D : List Nat} (h0 : h ≠ 0) (hc : TopE E C (hvs hv (nd h).l)) (hd : TopE E D (hvs hv (nd h).r)) : TopE E (C ++ h :: D) (reckN E nd hv h) := by
  unfold reckN
  exact ((TopE.own h0).hvr hc |>.hvr hd).congr (fun k => by
    simp only [List.mem_append, List.mem_cons, List.not_mem_nil, or_false]
    exact ⟨fun x => x.elim (fun x => .inl (.inr x)) (fun x => x.elim (fun x => .inl (.inl x)) .inr), fun x => x.elim (fun x => x.elim (fun x => .inr (.inl x)) .inl) (fun x => .inr (.inr x))⟩)
theorem Hv.at (H : Lc live nd T S P) (V : Hv E live T hv) {c : Nat} (hc : c ≠ 0 → live c) : TopE E (T c) (hvs hv c) := by
  unfold hvs
  by_cases e : c = 0
  · rw [if_pos e, e, H.t0]; exact .nil
  · rw [if_neg e]; exact V c (hc e)
theorem Hv.settle (V : Hv E live T hv) : Hv E live (settleT nd T h) hv := fun k hk => (V k hk).congr (fun x => by unfold settleT; split <;> simp)

end Go.Proofs.Ytffmlffhiimmdaa
