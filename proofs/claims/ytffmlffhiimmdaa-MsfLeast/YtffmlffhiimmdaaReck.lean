/- A node's heaviest edge is found anew. -/
import Derived.Test.YtffmlffhiimmdaaHang5
namespace Go.Proofs.Ytffmlffhiimmdaa
open Go.ChangeShapes Go.WideShapes Go.ChangeAt Go.RowKit
set_option linter.unusedVariables false

/-- Heaviest edges are edges that are there. -/
def Hc (live : Nat → Prop) (hv : Nat → Nat) : Prop := ∀ h, live h → hv h ≠ 0 → live (hv h) ∧ hv h % 2 = 0
def hvs (hv : Nat → Nat) (c : Nat) : Nat := if c = 0 then 0 else hv c
def reckN (E : Nat → Ed) (nd : Nat → Ln) (hv : Nat → Nat) (h : Nat) : Nat := hvr E (hvr E (own h) (hvs hv (nd h).l)) (hvs hv (nd h).r)

theorem own_ok {live : Nat → Prop} {h : Nat} (hl : live h) : own h ≠ 0 → live (own h) ∧ own h % 2 = 0 := by
  unfold own
  split
  · rename_i e; exact fun _ => ⟨hl, e⟩
  · exact fun x => absurd rfl x
theorem hvr_ok {live : Nat → Prop} {E : Nat → Ed} {a b : Nat} (ha : a ≠ 0 → live a ∧ a % 2 = 0) (hb : b ≠ 0 → live b ∧ b % 2 = 0) : hvr E a b ≠ 0 → live (hvr E a b) ∧ hvr E a b % 2 = 0 := by
  unfold hvr
  split
  · exact hb
  · split
    · exact ha
    · split
      · exact ha
      · exact hb
theorem hvr0 (E : Nat → Ed) (a : Nat) : hvr E a 0 = a := by unfold hvr; by_cases e : a = 0 <;> simp [e]
/-- One round of reckon. -/
theorem heav_k (W : World) (o : Nat → Nat) (L : Nat) (live : Nat → Prop) (pt : Nat → Nat) (E : Nat → Ed) (nd : Nat → Ln) (hv : Nat → Nat) (h c X : Nat) (F : Lm W o L live pt E nd (upd hv h X)) (hs : Small live) (hl : live h) (hX : X ≠ 0 → live X ∧ X % 2 = 0) (lc : live c) (ne : c ≠ h) (hc : hv c ≠ 0 → live (hv c) ∧ hv c % 2 = 0) :
    (W.cell? ⟨pt h, 6, none⟩ = some (.pointer (pq pt X)) ∧ W.cell? ⟨pt c, 6, none⟩ = some (.pointer (pq pt (hv c)))) ∧
    Hid (∀ wx, Step (fun _ => False) W o wx o → Calls Try.prog 77 #[.pointer (pq pt X), .pointer (pq pt (hv c))] wx fun e w' => e = .returned (.pointer (pq pt (hvr E X (hv c)))) ∧
          (Lm (w'.setCell ⟨pt h, 6, none⟩ (.pointer (pq pt (hvr E X (hv c))))) o L live pt E nd (upd hv h (hvr E X (hv c))) ∧ Step (NL L) W o (w'.setCell ⟨pt h, 6, none⟩ (.pointer (pq pt (hvr E X (hv c))))) o) ∧ w'.cell? ⟨pt h, 6, none⟩ = some (.pointer (pq pt X)) ∧ ∀ j, w'.frozen? ⟨pt h, j, none⟩ = false) ∧
    Step (fun _ => False) W o W.drew o := by
  have e6 := (F.node hl).hv
  have d6 := (F.node lc).hv
  rw [upd_same] at e6
  rw [upd_other _ _ ne] at d6
  refine ⟨⟨e6, d6⟩, fun wx s => ?_, (Step.refl _ _ o).drew⟩
  refine (heavier_any wx o L live pt E nd _ X (hv c) (F.quiet s) hs hX hc).mono ?_
  rintro e w' ⟨rfl, s'⟩
  have G := F.quiet (s.trans s')
  have g := G.node hl
  have q := G.set_hv hs hl (hvr E X (hv c))
  rw [upd_upd] at q
  exact ⟨rfl, ⟨q.1, ((s.trans s').mono (fun _ x => x.elim)).trans q.2⟩, by have := g.hv; rwa [upd_same] at this, g.fz⟩

set_option maxRecDepth 100000 in
set_option maxHeartbeats 4000000 in
theorem reckon_any (w : World) (o : Nat → Nat) (L : Nat) (live : Nat → Prop) (pt : Nat → Nat) (E : Nat → Ed) (nd : Nat → Ln) (hv : Nat → Nat) (h : Nat) (F : Lm w o L live pt E nd hv) (hs : Small live) (C : Cl live nd) (hc : Hc live hv) (hl : live h) (nl : (nd h).l ≠ h) (nr : (nd h).r ≠ h) :
    Calls Try.prog 58 #[.pointer (some ⟨pt h, 0, none⟩)] w fun e w' => e = .returned (.tuple #[]) ∧ Lm w' o L live pt E nd (upd hv h (reckN E nd hv h)) ∧ Step (NL L) w o w' o := by
  have N := F.node hl
  have c := N.ed
  have c6 := N.hv
  have cl := N.l
  have cr := N.r
  have fz := N.fz
  have i0 := ix0
  have i1 := ix1
  obtain ⟨F1, S1⟩ := F.set_hv hs hl (own h)
  have ho : own h ≠ 0 → live (own h) ∧ own h % 2 = 0 := own_ok hl
  by_cases er : (nd h).r = 0
  · by_cases el : (nd h).l = 0
    · have e1 : reckN E nd hv h = own h := by rw [reckN, hvs, hvs, if_pos el, if_pos er, hvr0, hvr0]
      rw [e1]
      rw [er, pq0] at cr
      rw [el, pq0] at cl
      clear F C hc
      go_enter Try.func58, Try.ntmps58
      go_wp2_with fail
      refine wp_loop_rounds 3 ?_
      rw [rounds_succ]
      go_wp2_with fail
      rw [rounds_succ]
      go_wp2_with fail
      rw [rounds_succ]
      go_wp2
      go_end0
      exact ⟨rfl, F1, S1⟩
    · have ll := (C h hl).2.1 el
      have e1 : reckN E nd hv h = hvr E (own h) (hv (nd h).l) := by rw [reckN, hvs, hvs, if_neg el, if_pos er, hvr0]
      rw [e1]
      obtain ⟨⟨e6, d6⟩, HA, s0⟩ := heav_k _ o L live pt E nd hv h (nd h).l (own h) F1 hs hl ho ll nl (hc _ ll)
      rw [er, pq0] at cr
      rw [pqn pt el] at cl
      clear F C hc F1 e1
      go_enter Try.func58, Try.ntmps58
      go_wp2_with fail
      refine wp_loop_rounds 3 ?_
      rw [rounds_succ]
      go_wp2_with fail
      go_region_with (go_at_call 77; refine (HA.out _ s0).mono ?_; rintro e wA ⟨rfl, ⟨FA, SA⟩, ca, fa⟩)
      all_goals
        have SB := S1.trans SA
        clear S1 SA HA s0 e6 d6
        go_wp2_with fail
        rw [rounds_succ]
        go_wp2_with fail
        rw [rounds_succ]
        go_wp2
        go_end0
        exact ⟨rfl, FA, SB⟩
  · have lr := (C h hl).2.2 er
    by_cases el : (nd h).l = 0
    · have e1 : reckN E nd hv h = hvr E (own h) (hv (nd h).r) := by rw [reckN, hvs, hvs, if_pos el, if_neg er, hvr0]
      rw [e1]
      obtain ⟨⟨e6, d6⟩, HA, s0⟩ := heav_k _ o L live pt E nd hv h (nd h).r (own h) F1 hs hl ho lr nr (hc _ lr)
      rw [el, pq0] at cl
      rw [pqn pt er] at cr
      clear F C hc F1 e1
      go_enter Try.func58, Try.ntmps58
      go_wp2_with fail
      refine wp_loop_rounds 3 ?_
      rw [rounds_succ]
      go_wp2_with fail
      rw [rounds_succ]
      go_wp2_with fail
      go_region_with (go_at_call 77; refine (HA.out _ s0).mono ?_; rintro e wA ⟨rfl, ⟨FA, SA⟩, ca, fa⟩)
      all_goals
        have SB := S1.trans SA
        clear S1 SA HA s0 e6 d6
        go_wp2_with fail
        rw [rounds_succ]
        go_wp2
        go_end0
        exact ⟨rfl, FA, SB⟩
    · have ll := (C h hl).2.1 el
      have e1 : reckN E nd hv h = hvr E (hvr E (own h) (hv (nd h).l)) (hv (nd h).r) := by rw [reckN, hvs, hvs, if_neg el, if_neg er]
      rw [e1]
      obtain ⟨⟨e6, d6⟩, HA, s0⟩ := heav_k _ o L live pt E nd hv h (nd h).l (own h) F1 hs hl ho ll nl (hc _ ll)
      have HB : Hid (∀ W, Lm W o L live pt E nd (upd hv h (hvr E (own h) (hv (nd h).l))) → _) := fun W G => heav_k W o L live pt E nd hv h (nd h).r (hvr E (own h) (hv (nd h).l)) G hs hl (hvr_ok ho (hc _ ll)) lr nr (hc _ lr)
      rw [pqn pt el] at cl
      rw [pqn pt er] at cr
      clear F C hc F1 e1
      go_enter Try.func58, Try.ntmps58
      go_wp2_with fail
      refine wp_loop_rounds 3 ?_
      rw [rounds_succ]
      go_wp2_with fail
      go_region_with (go_at_call 77; refine (HA.out _ s0).mono ?_; rintro e wA ⟨rfl, ⟨FA, SA⟩, ca, fa⟩)
      all_goals
        have SB := S1.trans SA
        obtain ⟨⟨f6, g6⟩, HC, t0⟩ := HB.out _ FA
        clear S1 SA HA s0 e6 d6 HB FA
        go_wp2_with fail
        rw [rounds_succ]
        go_wp2_with fail
        go_region_with (go_at_call 77; refine (HC.out _ t0).mono ?_; rintro e wB ⟨rfl, ⟨FB, SC⟩, cb, fb⟩)
        all_goals
          have SD := SB.trans SC
          clear SB SC HC t0 f6 g6 ca fa
          go_wp2_with fail
          rw [rounds_succ]
          go_wp2
          go_end0
          exact ⟨rfl, FB, SD⟩

end Go.Proofs.Ytffmlffhiimmdaa
