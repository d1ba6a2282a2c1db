/- The law ArenaKeeps: what its two helpers do to the lists of handles and of what was laid; the invariant of its first loop. -/
import Derived.Test.YtbcpifklnbaooaaLaw
import Derived.Test.YtbcpifklnbaooaaArArr
namespace Go.Proofs.Ytbcpifklnbaooaa
open Go.ChangeShapes Go.WideShapes Go.ChangeAt Go.RowKit
set_option linter.unusedVariables false

def numsL (l : List Int) : List Value := l.map fun z => .int .i64 z
theorem numsL_get (l : List Int) (j : Nat) (h : j < l.length) : (numsL l)[j]? = some (.int .i64 (l.getD j 0)) := by simp [numsL, h]
theorem intsL_getD (l : List Nat) (j : Nat) (h : j < l.length) : (intsL l)[j]? = some (.int .i64 (l.getD j 0 : Nat)) := by simp [intsL, h]

/-- A handle that was dropped, and is in use by a later thing. -/
theorem again_yes (at' : List Nat) (what : List Int) (k j : Nat) (w : World) (o : Nat → Nat) (La Lw : Nat) (va vw : Value)
    (ha : Row w o La 3 1 va at'.length (intsL at')) (hw : Row w o Lw 3 1 vw at'.length (numsL what)) (hl : what.length = at'.length) (hb : at'.length ≤ 400)
    (hkj : k < j) (hj : j < at'.length) (he : at'.getD j 0 = at'.getD k 0) (hl' : 0 ≤ what.getD j 0) :
    Calls Try.prog 20 #[va, vw, .int .i64 k] w fun e w' => e = .returned (.bool true) ∧ ∃ m, w' = w.drewN m := by
  obtain ⟨ga, ca, rfl, _, hca, hma, _, hcla, _⟩ := ha.pos (by omega)
  obtain ⟨gw, cw, rfl, _, hcw, hmw, _, hclw, _⟩ := hw.pos (by omega)
  have cA : ∀ i, i < at'.length → w.cell? ⟨ga, i, none⟩ = some (.int .i64 (at'.getD i 0 : Nat)) := fun i hi => (hcla i (by omega)).trans (intsL_getD at' i hi)
  have cW : ∀ i, i < at'.length → w.cell? ⟨gw, i, none⟩ = some (.int .i64 (what.getD i 0)) := fun i hi => (hclw i (by omega)).trans (numsL_get what i (by omega))
  obtain ⟨N, hN⟩ : ∃ N, N = at'.length := ⟨_, rfl⟩
  rw [← hN] at hca hcw cA cW hj hb ⊢
  unfold maxLen at hma hmw
  clear ha hw hl hcla hclw hN
  have cK := cA k (by omega)
  obtain ⟨fa, hfa⟩ : ∃ fa : Nat → Nat, fa = fun i => at'.getD i 0 := ⟨_, rfl⟩
  obtain ⟨fw, hfw⟩ : ∃ fw : Nat → Int, fw = fun i => what.getD i 0 := ⟨_, rfl⟩
  have cA' : ∀ i, i < N → w.cell? ⟨ga, i, none⟩ = some (.int .i64 (fa i : Nat)) := by rw [hfa]; exact cA
  have cW' : ∀ i, i < N → w.cell? ⟨gw, i, none⟩ = some (.int .i64 (fw i)) := by rw [hfw]; exact cW
  have cK' : w.cell? ⟨ga, k, none⟩ = some (.int .i64 (fa k : Nat)) := cA' k (by omega)
  have he' : fa j = fa k := by rw [hfa]; exact he
  have hl2 : 0 ≤ fw j := by rw [hfw]; exact hl'
  clear cA cW cK hfa hfw he hl'
  have hkN : k < N := by omega
  go_enter Try.func20, Try.ntmps20
  go_wp2
  go_loopw [7] (fun i wr => ∃ q : Nat, q ≤ j ∧ k < q ∧ i = .int .i64 q ∧ ∃ m, wr = w.drewN m) (fun i _ => j - (intOf i).toNat)
  case atStart => exact ⟨k + 1, by omega, by omega, by go_num, 0, rfl⟩
  case round =>
    obtain ⟨q, hq, hkq, rfl, m, rfl⟩ := hrel
    have cQ := cA' q (by omega)
    have cQ2 := cW' q (by omega)
    have hqN : q < N := by omega
    by_cases hc : fa q = fa k
    · have hd : ((fa q : Int) == (fa k : Int)) = true := by rw [hc]; simp
      by_cases hx : 0 ≤ fw q
      · go_wp2
        go_quiet (fail)
        go_wp2
        go_ret
        exact ⟨rfl, _, by first | rfl | exact World.drewN_drewN ..⟩
      · have hx' : decide (0 ≤ fw q) = false := by simpa using hx
        have hqj : q < j := by
          rcases Nat.lt_or_ge q j with h | h
          · exact h
          · exact absurd (show 0 ≤ fw q by rw [show q = j by omega]; exact hl2) hx
        go_wp2
        go_quiet (fail)
        go_wp2
        go_roundw
        case rel => (try ((repeat apply Exists.intro); refine ⟨?_, rfl⟩)); exact ⟨q + 1, by omega, by omega, by go_num, _, rfl⟩
        case measure => simp [intOf]; omega
    · have hd : ((fa q : Int) == (fa k : Int)) = false := by simp only [beq_eq_false_iff_ne, ne_eq]; omega
      have hqj : q < j := by
        rcases Nat.lt_or_ge q j with h | h
        · exact h
        · exact absurd (show fa q = fa k by rw [show q = j by omega]; exact he') hc
      go_wp2
      go_quiet (fail)
      go_wp2
      go_roundw
      case rel => (try ((repeat apply Exists.intro); refine ⟨?_, rfl⟩)); exact ⟨q + 1, by omega, by omega, by go_num, _, rfl⟩
      case measure => simp [intOf]; omega

/-- What is under a handle is there no more. -/
theorem gone_any (at' : List Nat) (what : List Int) (h : Nat) (w : World) (o : Nat → Nat) (La Lw : Nat) (va vw : Value) (hne : La ≠ Lw)
    (ha : Row w o La 3 1 va at'.length (intsL at')) (hw : Row w o Lw 3 1 vw at'.length (numsL what)) (hl : what.length = at'.length) (hb : at'.length ≤ 400) (hpos : 0 < at'.length) :
    Calls Try.prog 21 #[va, vw, .int .i64 h] w fun e w' => e = .returned (.tuple #[]) ∧ ∃ wq : List Int, wq.length = at'.length ∧ (∀ i, wq.getD i 0 = if i < at'.length ∧ at'.getD i 0 = h then -1 else what.getD i 0) ∧ Row w' o Lw 3 1 vw at'.length (numsL wq) ∧ Step (fun k => k = Lw) w o w' o := by
  obtain ⟨ga, ca, rfl, hoa, hca, hma, _, _, _⟩ := ha.pos hpos
  obtain ⟨gw, cw, rfl, how, hcw, hmw, _, _, _⟩ := hw.pos hpos
  obtain ⟨N, hN⟩ : ∃ N, N = at'.length := ⟨_, rfl⟩
  have hgg : ga ≠ gw := fun e => by rw [e] at hoa; omega
  have hgg' := hgg.symm
  have HL : Hid (what.length = at'.length) := hl
  have HN : Hid (N = at'.length) := hN
  rw [← hN] at hca hcw hb ha hw ⊢
  unfold maxLen at hma hmw
  clear hl hN hpos
  go_enter Try.func21, Try.ntmps21
  go_wp2
  go_loopw [6] (fun i wr => ∃ q : Nat, q ≤ N ∧ i = .int .i64 q ∧ ∃ wq : List Int, wq.length = N ∧ Hid (∀ i, wq.getD i 0 = if i < q ∧ at'.getD i 0 = h then -1 else what.getD i 0) ∧ Row wr o Lw 3 1 (.slice (some ⟨gw, 0, none⟩) N cw) N (numsL wq) ∧ Step (fun k => k = Lw) w o wr o) (fun i _ => N - (intOf i).toNat)
  case atStart => exact ⟨0, by omega, by go_num, what, by rw [HL.out, ← HN.out], (fun i => by simp : _), hw, Step.refl _ _ _⟩
  case round =>
    obtain ⟨q, hq, rfl, wq, hlq, HQ, rq, sq⟩ := hrel
    by_cases hlt : q < N
    · have ra := ha.step sq hne
      obtain ⟨ga', ca', hv, _, _, _, _, hcla, _⟩ := ra.pos (by omega)
      simp only [Value.slice.injEq, Option.some.injEq, Addr.mk.injEq, and_true, true_and] at hv
      obtain ⟨rfl, rfl⟩ := hv
      obtain ⟨gw', cw', hv, _, _, _, _, hclw, hfrw⟩ := rq.pos (by omega)
      simp only [Value.slice.injEq, Option.some.injEq, Addr.mk.injEq, and_true, true_and] at hv
      obtain ⟨rfl, rfl⟩ := hv
      have cQ : wr.cell? ⟨ga, q, none⟩ = some (.int .i64 (at'.getD q 0 : Nat)) := (hcla q (by omega)).trans (intsL_getD at' q (by rw [← HN.out]; exact hlt))
      have cW : wr.cell? ⟨gw, q, none⟩ = some (.int .i64 (wq.getD q 0)) := (hclw q (by omega)).trans (numsL_get wq q (by omega))
      have rs := rq.store q (.int .i64 (-1))
      have ss := sq.setCell ⟨gw, q, none⟩ (.int .i64 (-1)) how
      have HLQ : Hid (wq.length = N) := hlq
      obtain ⟨x, hx⟩ : ∃ x, x = at'.getD q 0 := ⟨_, rfl⟩
      rw [← hx] at cQ
      have HX : Hid (x = at'.getD q 0) := hx
      clear hcla hclw ra hx hlq
      by_cases hc : x = h
      · have hd : ((x : Int) == (h : Int)) = true := by rw [hc]; simp
        have e1 : (numsL wq).set q (.int .i64 (-1)) = numsL (wq.set q (-1)) := by simp [numsL]
        rw [e1] at rs
        have H2 : Hid (∀ i, (wq.set q (-1)).getD i 0 = if i < q + 1 ∧ at'.getD i 0 = h then -1 else what.getD i 0) := by
          intro i
          have := HQ.out i
          rw [List.getD_eq_getElem?_getD, List.getElem?_set]
          by_cases e : q = i
          · subst e
            rw [if_pos rfl, if_pos (by rw [HLQ.out]; exact hlt), if_pos ⟨by omega, by rw [← HX.out]; exact hc⟩]
            rfl
          · rw [if_neg e, ← List.getD_eq_getElem?_getD, this]
            have : (i < q ∧ at'.getD i 0 = h) ↔ (i < q + 1 ∧ at'.getD i 0 = h) := ⟨fun ⟨a, b⟩ => ⟨by omega, b⟩, fun ⟨a, b⟩ => ⟨by omega, b⟩⟩
            simp only [this]
        clear e1 HX
        subst hc
        go_wp2
        go_roundw
        case rel => (try ((repeat apply Exists.intro); refine ⟨?_, rfl⟩)); exact ⟨q + 1, by omega, by go_num, wq.set q (-1), by rw [List.length_set]; exact HLQ.out, H2, rs, ss⟩
        case measure => simp [intOf]; omega
      · have hd : ((x : Int) == (h : Int)) = false := by simp only [beq_eq_false_iff_ne, ne_eq]; omega
        have H2 : Hid (∀ i, wq.getD i 0 = if i < q + 1 ∧ at'.getD i 0 = h then -1 else what.getD i 0) := by
          intro i
          rw [HQ.out i]
          have : (i < q ∧ at'.getD i 0 = h) ↔ (i < q + 1 ∧ at'.getD i 0 = h) := ⟨fun ⟨a, b⟩ => ⟨by omega, b⟩, fun ⟨a, b⟩ => ⟨by
            rcases Nat.lt_or_ge i q with h' | h'
            · exact h'
            · exact absurd (by rw [HX.out, show q = i by omega]; exact b) hc, b⟩⟩
          simp only [this]
        clear HX rs ss
        go_wp2
        go_roundw
        case rel => (try ((repeat apply Exists.intro); refine ⟨?_, rfl⟩)); exact ⟨q + 1, by omega, by go_num, wq, HLQ.out, H2, rq, sq⟩
        case measure => simp [intOf]; omega
    · obtain rfl : q = N := by omega
      go_wp2
      go_end0
      exact ⟨rfl, wq, hlq, HQ.out, rq, sq⟩

end Go.Proofs.Ytbcpifklnbaooaa
