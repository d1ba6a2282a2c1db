/- A node that is to be turned is settled. -/
import Derived.Test.YtffmlffhiimmdaaAsk5
import Derived.BigRegion
import Derived.LoopN
namespace Go.Proofs.Ytffmlffhiimmdaa
open Go.ChangeShapes Go.WideShapes Go.ChangeAt Go.RowKit
set_option linter.unusedVariables false

set_option maxRecDepth 100000 in
theorem settle_no (w : World) (o : Nat → Nat) (L : Nat) (live : Nat → Prop) (pt : Nat → Nat) (E : Nat → Ed) (nd : Nat → Ln) (hv : Nat → Nat) (h : Nat) (F : Lm w o L live pt E nd hv) (hl : live h) (e : (nd h).tw = false) :
    Calls Try.prog 59 #[.pointer (some ⟨pt h, 0, none⟩)] w fun e w' => e = .returned (.tuple #[]) ∧ w' = w := by
  have c := (F.node hl).tw
  rw [e] at c
  clear F
  go_enter Try.func59, Try.ntmps59
  go_wp2
  exact bodyPost_ret (results_none Try.results59 _ _ _) rfl ⟨rfl, rfl⟩
theorem ix0 (a b : Option Addr) (w : World) : (Instr.index 88 (.agg #[.pointer a, .pointer b]) (.int .i64 0)).run Try.prog w = .ok (.pointer a) w := by kernel_rfl
theorem ix1 (a b : Option Addr) (w : World) : (Instr.index 88 (.agg #[.pointer a, .pointer b]) (.int .i64 1)).run Try.prog w = .ok (.pointer b) w := by kernel_rfl
/-- The nodes with both sides of one exchanged, and it settled. -/
def turn0 (nd : Nat → Ln) (h : Nat) : Nat → Ln := upd nd h ⟨(nd h).up, (nd h).r, (nd h).l, false⟩
theorem Lm.turn0 {w : World} {o : Nat → Nat} {L : Nat} {live : Nat → Prop} {pt : Nat → Nat} {E : Nat → Ed} {nd : Nat → Ln} {hv : Nat → Nat} {h : Nat} (F : Lm w o L live pt E nd hv) (hs : Small live) (hl : live h) :
    Lm (((w.setCell ⟨pt h, 3, none⟩ (.bool false)).setCell ⟨pt h, 1, none⟩ (.pointer (pq pt (nd h).r))).setCell ⟨pt h, 2, none⟩ (.pointer (pq pt (nd h).l))) o L live pt E (turn0 nd h) hv ∧
      Step (NL L) w o (((w.setCell ⟨pt h, 3, none⟩ (.bool false)).setCell ⟨pt h, 1, none⟩ (.pointer (pq pt (nd h).r))).setCell ⟨pt h, 2, none⟩ (.pointer (pq pt (nd h).l))) o := by
  obtain ⟨F1, S1⟩ := F.set_tw hs hl false
  obtain ⟨F2, S2⟩ := F1.set_l hs hl (nd h).r
  obtain ⟨F3, S3⟩ := F2.set_r hs hl (nd h).l
  refine ⟨F3.congr (fun k _ => ?_) (fun _ _ => rfl), (S1.trans S2).trans S3⟩
  unfold Go.Proofs.Ytffmlffhiimmdaa.turn0 upd
  by_cases e : k = h
  · simp [e]
  · simp [e]
theorem settleN_one (nd : Nat → Ln) (h c : Nat) (c0 : c ≠ 0) (ch : c ≠ h) (k : Nat) (q : (c = (nd h).l ∧ (nd h).r = 0) ∨ (c = (nd h).r ∧ (nd h).l = 0)) :
    settleN nd h k = upd (turn0 nd h) c { turn0 nd h c with tw := !(nd c).tw } k := by
  unfold settleN turn0 upd
  by_cases e : k = h
  · subst e
    rw [if_pos rfl, if_neg (fun x => ch x.symm), if_pos rfl]
  · rw [if_neg e, if_neg ch]
    by_cases e2 : k = c
    · subst e2
      rw [if_pos rfl, if_pos ⟨c0, by rcases q with q | q; exact .inl q.1; exact .inr q.1⟩]
    · rw [if_neg e2, if_neg e, if_neg]
      rintro ⟨x0, x | x⟩ <;> rcases q with q | q
      · exact e2 (x.trans q.1.symm)
      · exact x0 (x.trans q.2)
      · exact x0 (x.trans q.2)
      · exact e2 (x.trans q.1.symm)
theorem settleN_two (nd : Nat → Ln) (h : Nat) (l0 : (nd h).l ≠ 0) (r0 : (nd h).r ≠ 0) (nl : (nd h).l ≠ h) (nr : (nd h).r ≠ h) (nn : (nd h).l ≠ (nd h).r) (k : Nat) :
    settleN nd h k = upd (upd (turn0 nd h) (nd h).r { turn0 nd h (nd h).r with tw := !(nd (nd h).r).tw }) (nd h).l { upd (turn0 nd h) (nd h).r { turn0 nd h (nd h).r with tw := !(nd (nd h).r).tw } (nd h).l with tw := !(nd (nd h).l).tw } k := by
  unfold settleN turn0 upd
  by_cases e : k = h
  · subst e
    rw [if_pos rfl, if_neg (fun x => nl x.symm), if_neg (fun x => nr x.symm), if_pos rfl]
  · rw [if_neg e, if_neg nr, if_neg nl, if_neg nn]
    by_cases e2 : k = (nd h).l
    · rw [if_pos e2, if_pos ⟨e2 ▸ l0, .inl e2⟩, e2]
    · by_cases e3 : k = (nd h).r
      · rw [if_neg e2, if_pos e3, if_pos ⟨e3 ▸ r0, .inr e3⟩, e3]
      · rw [if_neg e2, if_neg e3, if_neg e, if_neg]
        rintro ⟨x0, x | x⟩
        · exact e2 x
        · exact e3 x
set_option maxRecDepth 100000 in
set_option maxHeartbeats 4000000 in
theorem settle_yes (w : World) (o : Nat → Nat) (L : Nat) (live : Nat → Prop) (pt : Nat → Nat) (E : Nat → Ed) (nd : Nat → Ln) (hv : Nat → Nat) (h : Nat) (F : Lm w o L live pt E nd hv) (hs : Small live) (C : Cl live nd) (hl : live h) (e : (nd h).tw = true) (nl : (nd h).l ≠ h) (nr : (nd h).r ≠ h) (nn : (nd h).l ≠ 0 → (nd h).l ≠ (nd h).r) :
    Calls Try.prog 59 #[.pointer (some ⟨pt h, 0, none⟩)] w fun e w' => e = .returned (.tuple #[]) ∧ Lm w' o L live pt E (settleN nd h) hv ∧ Step (NL L) w o w' o := by
  have N := F.node hl
  have c := N.tw
  have cl := N.l
  have cr := N.r
  have fz := N.fz
  rw [e] at c
  obtain ⟨F3, S3⟩ := F.turn0 hs hl
  have hN : ∀ k, k ≠ h → turn0 nd h k = nd k := fun k q => by unfold turn0; rw [upd_other _ _ q]
  by_cases er : (nd h).r = 0
  · have er' : pq pt (nd h).r = none := by rw [er]; rfl
    by_cases el : (nd h).l = 0
    · have el' : pq pt (nd h).l = none := by rw [el]; rfl
      have G : Lm _ o L live pt E (settleN nd h) hv := F3.congr (fun k _ => by unfold settleN turn0 upd; split <;> simp_all) (fun _ _ => rfl)
      rw [er', el'] at G S3
      rw [er'] at cr
      rw [el'] at cl
      clear F F3 hN er el er' el' C
      have i0 := ix0
      have i1 := ix1
      go_enter Try.func59, Try.ntmps59
      go_wp2_with fail
      go_region
      all_goals
        go_wp2_with fail
        refine wp_loop_rounds 3 ?_
        rw [rounds_succ]
        go_wp2_with fail
        rw [rounds_succ]
        go_wp2_with fail
        rw [rounds_succ]
        go_wp2
        go_end0
        exact ⟨rfl, G, S3.drew⟩
    · have ll := (C h hl).2.1 el
      have d := (F3.node ll).tw
      have fd := (F3.node ll).fz
      rw [hN _ nl] at d
      obtain ⟨F4, S4⟩ := F3.set_tw hs ll (!(nd (nd h).l).tw)
      have G : Lm _ o L live pt E (settleN nd h) hv := F4.congr (fun k _ => settleN_one nd h _ el nl k (.inl ⟨rfl, er⟩)) (fun _ _ => rfl)
      have el' := pqn pt el
      rw [er', el'] at G S3 S4 d fd
      rw [er'] at cr
      rw [el'] at cl
      have S5 := S3.trans S4
      clear F F3 F4 S3 S4 hN er el er' el' C
      have i0 := ix0
      have i1 := ix1
      go_enter Try.func59, Try.ntmps59
      go_wp2_with fail
      go_region
      all_goals
        go_wp2_with fail
        refine wp_loop_rounds 3 ?_
        rw [rounds_succ]
        go_wp2_with fail
        rw [rounds_succ]
        go_wp2_with fail
        rw [rounds_succ]
        go_wp2
        go_end0
        exact ⟨rfl, G, S5.drew⟩
  · have lr := (C h hl).2.2 er
    have dr := (F3.node lr).tw
    have fdr := (F3.node lr).fz
    rw [hN _ nr] at dr
    obtain ⟨F4, S4⟩ := F3.set_tw hs lr (!(nd (nd h).r).tw)
    have er' := pqn pt er
    by_cases el : (nd h).l = 0
    · have el' : pq pt (nd h).l = none := by rw [el]; rfl
      have G : Lm _ o L live pt E (settleN nd h) hv := F4.congr (fun k _ => settleN_one nd h _ er nr k (.inr ⟨rfl, el⟩)) (fun _ _ => rfl)
      rw [er', el'] at G S3 S4 dr fdr
      rw [er'] at cr
      rw [el'] at cl
      have S5 := S3.trans S4
      clear F F3 F4 S3 S4 hN er el er' el' C
      have i0 := ix0
      have i1 := ix1
      go_enter Try.func59, Try.ntmps59
      go_wp2_with fail
      go_region
      all_goals
        go_wp2_with fail
        refine wp_loop_rounds 3 ?_
        rw [rounds_succ]
        go_wp2_with fail
        rw [rounds_succ]
        go_wp2_with fail
        rw [rounds_succ]
        go_wp2
        go_end0
        exact ⟨rfl, G, S5.drew⟩
    · have ll := (C h hl).2.1 el
      have d := (F4.node ll).tw
      have fd := (F4.node ll).fz
      rw [upd_other _ _ (nn el), hN _ nl] at d
      obtain ⟨F5, S6⟩ := F4.set_tw hs ll (!(nd (nd h).l).tw)
      have G : Lm _ o L live pt E (settleN nd h) hv := F5.congr (fun k _ => settleN_two nd h el er nl nr (nn el) k) (fun _ _ => rfl)
      have el' := pqn pt el
      have pne := F.pt_ne ll lr (nn el)
      rw [er', el'] at G S3 S4 S6 d fd dr fdr
      rw [er'] at cr
      rw [el'] at cl
      have S5 := (S3.trans S4).trans S6
      clear F F3 F4 F5 S3 S4 S6 hN er el er' el' C
      have i0 := ix0
      have i1 := ix1
      go_enter Try.func59, Try.ntmps59
      go_wp2_with fail
      go_region
      all_goals
        go_wp2_with fail
        refine wp_loop_rounds 3 ?_
        rw [rounds_succ]
        go_wp2_with fail
        rw [rounds_succ]
        go_wp2_with fail
        rw [rounds_succ]
        go_wp2
        go_end0
        exact ⟨rfl, G, S5.drew⟩

end Go.Proofs.Ytffmlffhiimmdaa
