/- A node is hung at a side of another one; a node's heaviest edge is found anew. -/
import Derived.Test.YtffmlffhiimmdaaSettle
namespace Go.Proofs.Ytffmlffhiimmdaa
open Go.ChangeShapes Go.WideShapes Go.ChangeAt Go.RowKit
set_option linter.unusedVariables false

def hangN (nd : Nat → Ln) (h s b : Nat) : Nat → Ln := fun k =>
  if k = h then (if s = 0 then { nd h with l := b } else { nd h with r := b })
  else if k = b then { nd k with up := h } else nd k

theorem hang_any (w : World) (o : Nat → Nat) (L : Nat) (live : Nat → Prop) (pt : Nat → Nat) (E : Nat → Ed) (nd : Nat → Ln) (hv : Nat → Nat) (h s b : Nat) (F : Lm w o L live pt E nd hv) (hs : Small live) (hl : live h) (hsd : s = 0 ∨ s = 1) (hb : b ≠ 0 → live b) (hne : b ≠ h) :
    Calls Try.prog 88 #[.pointer (some ⟨pt h, 0, none⟩), .int .i64 s, .pointer (pq pt b)] w fun e w' => e = .returned (.tuple #[]) ∧ Lm w' o L live pt E (hangN nd h s b) hv ∧ Step (NL L) w o w' o := by
  have h0 := hs.ne hl
  have N := F.node hl
  have cl := N.l
  have cr := N.r
  have fz := N.fz
  rcases hsd with rfl | rfl
  · obtain ⟨F1, S1⟩ := F.set_l hs hl b
    by_cases e : b = 0
    · have G : Lm _ o L live pt E (hangN nd h 0 b) hv := F1.congr (fun k hk => by have := hs.ne hk; unfold hangN upd; split <;> simp_all) (fun _ _ => rfl)
      rw [e, pq0] at G S1
      rw [e, pq0]
      clear F F1 e hs
      go_enter Try.func88, Try.ntmps88
      go_wp2
      go_end0
      exact ⟨rfl, G, S1⟩
    · have lb := hb e
      have M := F1.node lb
      have mu := M.up
      have mz := M.fz
      obtain ⟨F2, S2⟩ := F1.set_up hs lb h
      have G : Lm _ o L live pt E (hangN nd h 0 b) hv := F2.congr (fun k hk => by unfold hangN upd; by_cases q : k = h <;> by_cases q2 : k = b <;> simp_all) (fun _ _ => rfl)
      have S3 := S1.trans S2
      rw [pqn pt e, pqn pt h0] at G S3
      rw [pqn pt e] at mu mz
      rw [pqn pt e]
      clear F F1 F2 S1 S2 e hs
      go_enter Try.func88, Try.ntmps88
      go_wp2
      go_end0
      exact ⟨rfl, G, S3⟩
  · obtain ⟨F1, S1⟩ := F.set_r hs hl b
    by_cases e : b = 0
    · have G : Lm _ o L live pt E (hangN nd h 1 b) hv := F1.congr (fun k hk => by have := hs.ne hk; unfold hangN upd; split <;> simp_all) (fun _ _ => rfl)
      rw [e, pq0] at G S1
      rw [e, pq0]
      clear F F1 e hs
      go_enter Try.func88, Try.ntmps88
      go_wp2
      go_end0
      exact ⟨rfl, G, S1⟩
    · have lb := hb e
      have M := F1.node lb
      have mu := M.up
      have mz := M.fz
      obtain ⟨F2, S2⟩ := F1.set_up hs lb h
      have G : Lm _ o L live pt E (hangN nd h 1 b) hv := F2.congr (fun k hk => by unfold hangN upd; by_cases q : k = h <;> by_cases q2 : k = b <;> simp_all) (fun _ _ => rfl)
      have S3 := S1.trans S2
      rw [pqn pt e, pqn pt h0] at G S3
      rw [pqn pt e] at mu mz
      rw [pqn pt e]
      clear F F1 F2 S1 S2 e hs
      go_enter Try.func88, Try.ntmps88
      go_wp2
      go_end0
      exact ⟨rfl, G, S3⟩

/-- The heavier one of two edges' nodes; 0 is none. -/
def hvr (E : Nat → Ed) (a b : Nat) : Nat := if a = 0 then b else if b = 0 then a else if (E b).w < (E a).w ∨ ((E a).w = (E b).w ∧ b < a) then a else b
theorem id_lt {a b : Nat} (ha : a % 2 = 0) (hb : b % 2 = 0) (a0 : a ≠ 0) (b0 : b ≠ 0) : ((((b - 2) / 2 : Nat) : Int) < (((a - 2) / 2 : Nat) : Int)) ↔ b < a := by omega

theorem heavier_any (w : World) (o : Nat → Nat) (L : Nat) (live : Nat → Prop) (pt : Nat → Nat) (E : Nat → Ed) (nd : Nat → Ln) (hv : Nat → Nat) (a b : Nat) (F : Lm w o L live pt E nd hv) (hs : Small live) (ha : a ≠ 0 → live a ∧ a % 2 = 0) (hb : b ≠ 0 → live b ∧ b % 2 = 0) :
    Calls Try.prog 77 #[.pointer (pq pt a), .pointer (pq pt b)] w fun e w' => e = .returned (.pointer (pq pt (hvr E a b))) ∧ Step (fun _ => False) w o w' o := by
  by_cases a0 : a = 0
  · rw [hvr, if_pos a0, a0, pq0]
    clear F
    go_enter Try.func77, Try.ntmps77
    go_wp2
    go_ret
    exact ⟨rfl, Step.refl _ _ _⟩
  by_cases b0 : b = 0
  · rw [hvr, if_neg a0, if_pos b0, b0, pq0, pqn pt a0]
    clear F
    go_enter Try.func77, Try.ntmps77
    go_wp2
    go_ret
    exact ⟨rfl, Step.refl _ _ _⟩
  obtain ⟨la, ea⟩ := ha a0
  obtain ⟨lb, eb⟩ := hb b0
  obtain ⟨a1, _, _, a2⟩ := F.edge la ea
  obtain ⟨b1, _, _, b2⟩ := F.edge lb eb
  have hid := id_lt ea eb a0 b0
  generalize (((a - 2) / 2 : Nat) : Int) = ia at a1 hid
  generalize (((b - 2) / 2 : Nat) : Int) = ib at b1 hid
  rw [hvr, if_neg a0, if_neg b0]
  rw [pqn pt a0, pqn pt b0]
  by_cases q : (E b).w < (E a).w
  · rw [if_pos (.inl q), pqn pt a0]
    clear F ha hb hid
    go_enter Try.func77, Try.ntmps77
    go_wp2
    go_quiet (fail)
    go_wp2
    go_ret
    exact ⟨rfl, (Step.refl _ _ _).drewN _⟩
  have qd : decide ((E b).w < (E a).w) = false := decide_eq_false q
  by_cases q1 : (E a).w = (E b).w
  · by_cases q2 : b < a
    · rw [if_pos (.inr ⟨q1, q2⟩), pqn pt a0]
      have q3 := hid.2 q2
      rw [q1] at a2 qd
      clear F ha hb hid q q1 q2
      go_enter Try.func77, Try.ntmps77
      go_wp2
      go_quiet (fail)
      go_wp2
      go_quiet (fail)
      go_wp2
      go_ret
      exact ⟨rfl, ((Step.refl _ _ _).drewN _).drewN _⟩
    · rw [if_neg (by rintro (x | x); exact q x; exact q2 x.2), pqn pt b0]
      have q3 : decide (ib < ia) = false := decide_eq_false (fun x => q2 (hid.1 x))
      rw [q1] at a2 qd
      clear F ha hb hid q q1 q2
      go_enter Try.func77, Try.ntmps77
      go_wp2
      go_quiet (fail)
      go_wp2
      go_quiet (fail)
      go_wp2
      go_ret
      exact ⟨rfl, ((Step.refl _ _ _).drewN _).drewN _⟩
  · rw [if_neg (by rintro (x | x); exact q x; exact q1 x.1), pqn pt b0]
    have q3 : decide ((E a).w = (E b).w) = false := decide_eq_false q1
    clear F ha hb hid q
    go_enter Try.func77, Try.ntmps77
    go_wp2
    go_quiet (fail)
    go_wp2
    go_quiet (fail)
    go_wp2
    go_ret
    exact ⟨rfl, ((Step.refl _ _ _).drewN _).drewN _⟩

end Go.Proofs.Ytffmlffhiimmdaa
