/- The walk of the law ArenaKeeps. -/
import Derived.Test.YtbcpifklnbaooaaKeepsPut
namespace Go.Proofs.Ytbcpifklnbaooaa
open Go.ChangeShapes Go.WideShapes Go.ChangeAt Go.RowKit
set_option linter.unusedVariables false

theorem IL.pos {L k : Nat} (h : IL L k) (hL : 0 < L) : Pos k := Nat.lt_of_lt_of_le hL h.1

/-- A round that put one. -/
theorem KSt.put {z : Nat → Int} {r n n' : Nat} {ts ts' : List (Int × Int)} {free free' : List Nat} {at' : List Nat} {what : List Int} {k : Nat}
    (hI : KInv z r n ts free at'.length (fun i => at'.getD i 0) (fun i => what.getD i 0)) (hl : what.length = at'.length) (hP : PutOK n ts free ((r : Int), z r) k n' ts' free') :
    KInv z (r + 1) n' ts' free' (at' ++ [k + 1]).length (fun i => (at' ++ [k + 1]).getD i 0) (fun i => (what ++ [(r : Int)]).getD i 0) := by
  have hN : (at' ++ [k + 1]).length = at'.length + 1 := by simp
  rw [hN]
  refine hI.put k hP.hold hP.hk hP.hn hP.hts hP.hother hP.huse hP.hnew hP.hcnt (fun i hi => ?_) (fun i hi => ?_) ?_ ?_
  · show (at' ++ [k + 1]).getD i 0 = _
    rw [getD_snoc, if_pos hi]
  · show (what ++ [(r : Int)]).getD i 0 = _
    rw [getD_snoc, if_pos (by omega)]
  · show (at' ++ [k + 1]).getD _ 0 = _
    rw [getD_snoc, if_neg (by omega), if_pos rfl]
  · show (what ++ [(r : Int)]).getD _ 0 = _
    rw [getD_snoc, if_neg (by omega), if_pos (by omega)]

set_option maxRecDepth 100000 in
set_option maxHeartbeats 8000000 in
theorem keeps_walk (c : Int) (ao : Option Addr) (len cap : Nat) (z : Nat → Int) (w : World) (h1 : -9223372036854775808 ≤ c) (h2 : c ≤ 9223372036854775807) (hlen : len * 8 ≤ 140737488351232) (ha : Arg w ao len z) :
    Calls Try.prog 4 #[.int .i64 c, .slice ao len cap] w fun e w' => e = .returned (.bool true) ∧ Below w.heap.size w w' := by
  obtain ⟨ii, hii, hzi0, hzi1, hzi2⟩ := info_parts infoInt
  go_enter Try.func4, Try.ntmps4
  go_wp2_with fail
  refine (awake_any w).mono ?_
  rintro e w1 ⟨rfl, hb1⟩
  go_wp2_with fail
  refine (pick_any c 4097 _ h1 h2 (by omega) (by omega)).mono ?_
  rintro e w2 ⟨room, hroom, rfl, rfl⟩
  have t1 : Step Pos w o0 w2 o0 := Step.ofBelow o0 hb1
  clear hb1 h1 h2
  go_wp2_with fail
  refine (newArr w2 o0 1 room (by omega)).mono ?_
  rintro e w3 ⟨rfl, o3, a3, s3⟩
  have t3 : Step Pos w o0 w3 o3 := t1.trans (s3.mono fun _ h => h.elim)
  obtain ⟨p, hp⟩ : ∃ p, p = w2.heap.size := ⟨_, rfl⟩
  rw [← hp] at a3 ⊢
  clear hp t1 s3
  go_wp2
  go_loopw [8, 9, 10] (fun va vw i wr => ∃ r : Nat, r ≤ len ∧ i = .int .i64 r ∧ KSt z w room p r va vw wr) (fun _ _ i _ => len - (intOf i).toNat)
  case atStart => exact ⟨0, by omega, rfl, o3, 0, [], [], [], [], a3, Row.nil _ _ _ _ _, Row.nil _ _ _ _ _, rfl, by simp, by omega, KInv.start _ _ _, t3⟩
  case round =>
    obtain ⟨r, hr, rfl, o4, n, ts, free, at', what, a4, ra, rw', hl4, hN4, hr4, hI, t4⟩ := hrel
    by_cases hin : r < len ∧ r < 400
    · obtain ⟨hrl, hr2⟩ := hin
      obtain ⟨b, off, rfl, hb, hcell, hz1, hz2⟩ := ha.below t4.old r hrl
      obtain ⟨N, hN⟩ : ∃ N, N = at'.length := ⟨_, rfl⟩
      have HN : Hid (N = at'.length) := hN
      have HL : Hid (what.length = at'.length) := hl4
      rw [← hN] at ra rw' hN4
      have hform := ra.form
      obtain ⟨aA, cA, rfl⟩ := hform
      have hform := rw'.form
      obtain ⟨aW, cW, rfl⟩ := hform
      clear hN hl4
      by_cases hput : 0 ≤ z r ∨ N = 0
      · have hguard : (decide (0 ≤ z r) || ((N : Int) == 0)) = true := by simp; omega
        have hways : 0 ≤ z r ∨ (¬ 0 ≤ z r ∧ ((N : Int) == 0) = true) := by simp only [beq_iff_eq]; omega
        clear hput hguard
        rcases hways with hz0 | ⟨hz0, hN0⟩
        all_goals
          go_wp2_with fail
          refine (putAnyArr wr o4 1 p room n ts free _ _ a4).mono ?_
          rintro e w5 (⟨hfull, rfl, s5, a5⟩ | ⟨k, n', ts', free', o5, rfl, a5, s5, hP⟩)
          · have hlen5 := fun wx hh => lenArr wx o4 1 p room n (flat2 ts) free hh
            rw [hfull] at hlen5
            have ra5 := ra.step s5 (by unfold IL; omega)
            have rw5 := rw'.step s5 (by unfold IL; omega)
            have t5 := t4.trans (s5.mono fun x h => h.pos (by omega))
            have hrm : room ≤ 4096 := by omega
            clear hfull s5 a4 t4
            go_wp2_with fail
            refine (hlen5 _ a5).mono ?_
            rintro e w6 ⟨rfl, m6, rfl⟩
            go_wp2_with fail
            refine (hlen5 _ (a5.drewN m6)).mono ?_
            rintro e w7 ⟨rfl, m7, rfl⟩
            clear hlen5
            go_wp2
            go_roundw
            case rel => (try ((repeat apply Exists.intro); refine ⟨?_, rfl⟩)); exact ⟨r + 1, by omega, by go_num, o4, n, ts, free, at', what, a5.drewN _, by rw [← HN.out]; exact ra5, by rw [← HN.out]; exact rw5, HL.out, by rw [← HN.out]; omega, by omega, hI.next, t5.drewN _⟩
            case measure => simp [intOf]; omega
          · have hlen5 := lenArr w5 o5 1 p room n' (flat2 ts') free' a5
            obtain ⟨q, hq⟩ : ∃ q, q = n' - free'.length := ⟨_, rfl⟩
            rw [← hq] at hlen5
            have hqr : ¬ (room : Int) < (q : Int) := by have := a5.wf.le; omega
            have ra5 := ra.step s5 (by unfold IL; omega)
            have rw5 := rw'.step s5 (by unfold IL; omega)
            have t5 := t4.trans (s5.mono fun x h => h.pos (by omega))
            have hI5 := KSt.put hI HL.out hP
            have hkb : k < 4096 := by have h1 := hP.hk; have h2 := a5.wf.le; have h3 := a5.wf.room; omega
            clear hq s5 a4 t4 hI hP
            go_wp2_with fail
            refine hlen5.mono ?_
            rintro e w6 ⟨rfl, m6, rfl⟩
            clear hlen5
            have hne : (((k : Int) + 1) != 0) = true := by simp only [bne_iff_ne, ne_eq]; omega
            have hm1 : N + 1 ≤ maxLen := by unfold maxLen; omega
            go_wp2_with (first | (at_builtin; refine wpList_append_lab rfl (.tmp 96) (.tmp 98) 35 rfl 3 ii (.int .i64 0) 1 8 Try.underlying35 hii hzi0 hzi1 hzi2 rfl (by decide) o5 5 _ _ (intsL at') rfl (ra5.step (((Step.refl (fun _ => False) w5 o5).alloc _).drewN _) (by simp)) ⟨w5.heap.size, 0, none⟩ 1 1 [.int .i64 ((k : Int) + 1)] rfl rfl (new_one_at (by simp) _ _) (by intro u hu; simp at hu; subst hu; rfl) (by decide) (by assumption) (by omega) ?_) | go_in)
            intro g7 c7 w7 o7 r7 s7
            have t7 := ((Step.refl (fun x => x = 5) w5 o5).drewN m6).alloc _ |>.trans s7
            have a7 := a5.step t7 (by unfold IL; omega)
            have rw7 := rw5.step t7 (by omega)
            have tt7 := t5.trans (t7.mono fun x h => by unfold Pos; omega)
            clear s7 t7 a5 rw5 ra5 t5
            go_wp2_with (first | (at_builtin; refine wpList_append_lab rfl (.tmp 100) (.tmp 102) 35 rfl 3 ii (.int .i64 0) 1 8 Try.underlying35 hii hzi0 hzi1 hzi2 rfl (by decide) o7 6 _ _ (numsL what) rfl (rw7.step ((Step.refl (fun _ => False) w7 o7).alloc _) (by simp)) ⟨w7.heap.size, 0, none⟩ 1 1 [.int .i64 (r : Int)] rfl rfl (new_one_at (by simp) _ _) (by intro u hu; simp at hu; subst hu; rfl) (by decide) (by assumption) (by omega) ?_) | go_in)
            intro g8 c8 w8 o8 r8 s8
            have t8 := (allocStep (fun x => x = 6) w7 o7 _).trans s8
            have a8 := a7.step t8 (by unfold IL; omega)
            have ra8 := r7.step t8 (by omega)
            have tt8 := tt7.trans (t8.mono fun x h => by unfold Pos; omega)
            have e1 : intsL at' ++ [.int .i64 ((k : Int) + 1)] = intsL (at' ++ [k + 1]) := by simp [intsL]
            have e2 : numsL what ++ [.int .i64 (r : Int)] = numsL (what ++ [(r : Int)]) := by simp [numsL]
            have e3 : N + 1 = (at' ++ [k + 1]).length := by rw [HN.out]; simp
            rw [e1] at ra8
            rw [e2] at r8
            have HE3 : Hid (N + 1 = (at' ++ [k + 1]).length) := e3
            clear s8 t8 a7 rw7 r7 tt7 e1 e2 e3
            go_wp2
            go_roundw
            case rel => (try ((repeat apply Exists.intro); refine ⟨?_, rfl⟩)); exact ⟨r + 1, by omega, by go_num, o8, n', ts', free', at' ++ [k + 1], what ++ [(r : Int)], a8, by rw [← HE3.out]; exact ra8, by rw [← HE3.out]; exact r8, by rw [List.length_append, List.length_append, HL.out]; rfl, by rw [← HE3.out]; omega, by omega, hI5, tt8⟩
            case measure => simp [intOf]; omega
      · have hz0 : ¬ 0 ≤ z r := by omega
        have hNp : 0 < N := by omega
        have hN0 : ((N : Int) == 0) = false := by simp only [beq_eq_false_iff_ne, ne_eq]; omega
        clear hput
        obtain ⟨gA, cA', hv, hogA, hcapA, hmxA, hltA, hclA, _⟩ := ra.pos hNp
        simp only [Value.slice.injEq, true_and] at hv
        obtain ⟨rfl, rfl⟩ := hv
        obtain ⟨gW, cW', hv, hogW, hcapW, hmxW, hltW, hclW, _⟩ := rw'.pos hNp
        simp only [Value.slice.injEq, true_and] at hv
        obtain ⟨rfl, rfl⟩ := hv
        unfold maxLen at hmxA hmxW
        go_wp2_with fail
        refine (pick_any (z r) N _ hz1 hz2 hNp (by omega)).mono ?_
        rintro e w5 ⟨k, hk, rfl, rfl⟩
        have hkA : k < at'.length := by rw [← HN.out]; exact hk
        have hrng : 1 ≤ at'.getD k 0 ∧ at'.getD k 0 ≤ n := hI.rng k hkA
        obtain ⟨x, hx⟩ : ∃ x, at'.getD k 0 = x + 1 := ⟨at'.getD k 0 - 1, by have := hrng.1; omega⟩
        have hxn : x < n := by have := hrng.2; rw [hx] at this; omega
        obtain ⟨y, hy⟩ : ∃ y, y = what.getD k 0 := ⟨_, rfl⟩
        have cAk : w5.cell? ⟨gA, k, none⟩ = some (.int .i64 (x + 1 : Nat)) := (hclA k (by omega)).trans (by rw [intsL_getD at' k hkA, hx])
        have cWk : w5.cell? ⟨gW, k, none⟩ = some (.int .i64 y) := (hclW k (by omega)).trans (by rw [numsL_get what k (by rw [HL.out]; exact hkA), hy])
        have HX : Hid (at'.getD k 0 = x + 1) := hx
        have HY : Hid (y = what.getD k 0) := hy
        have hnr := a4.wf.le
        have hro := a4.wf.room
        have hlts := flat2_len a4
        clear hclA hclW hx hy hrng
        by_cases hu : useB free x = true
        · go_wp2_with fail
          refine (dropInArr _ o4 1 p room n ts free x hxn hu a4).mono ?_
          rintro e w6 ⟨rfl, o6, a6, s6⟩
          have ra6 := ra.step s6 (by unfold IL; omega)
          have rw6 := rw'.step s6 (by unfold IL; omega)
          have t6 := t4.trans (s6.mono fun x h => h.pos (by omega))
          have cA6 : w6.cell? ⟨gA, k, none⟩ = some (.int .i64 (x + 1 : Nat)) := (World.cell?_of_block (w := w5) (s6.block gA hltA (by rw [hogA]; unfold IL; omega))).trans cAk
          have cW6 : w6.cell? ⟨gW, k, none⟩ = some (.int .i64 y) := (World.cell?_of_block (w := w5) (s6.block gW hltW (by rw [hogW]; unfold IL; omega))).trans cWk
          have hgone := fun (wx : World) (h1 : Row wx o6 5 3 1 (.slice (some ⟨gA, 0, none⟩) N cA) at'.length (intsL at')) (h2 : Row wx o6 6 3 1 (.slice (some ⟨gW, 0, none⟩) N cW) at'.length (numsL what)) => gone_any at' what (x + 1) wx o6 5 6 _ _ (by omega) h1 h2 HL.out (by rw [← HN.out]; omega) (by omega)
          rw [HN.out] at ra6 rw6
          by_cases hy0 : 0 ≤ y
          · clear s6 a4 t4 ra rw'
            go_wp2_with fail
            refine (hgone _ (by rw [HN.out]; exact ra6) (by rw [HN.out]; exact rw6)).mono ?_
            rintro e w7 ⟨rfl, wq, hlq, hq, r7, s7⟩
            have a7 := a6.step s7 (by unfold IL; omega)
            have ra7 := ra6.step s7 (by omega)
            have t7 := t6.trans (s7.mono fun x h => by unfold Pos; omega)
            have hI7 := hI.drop (fw' := fun i => wq.getD i 0) x hxn hu (by omega) (fun i hi => by show wq.getD i 0 = _; rw [hq i]; simp only [hi, true_and])
            rw [← HN.out] at r7
            have HLQ : Hid (wq.length = at'.length) := hlq
            clear hgone hq s7 hlq a6 ra6 rw6 t6
            go_wp2
            go_roundw
            case rel => (try ((repeat apply Exists.intro); refine ⟨?_, rfl⟩)); exact ⟨r + 1, by omega, by go_num, o6, n, _, _, at', wq, a7, by rw [HN.out]; exact ra7, by rw [← HN.out]; exact r7, HLQ.out, by rw [← HN.out]; omega, by omega, hI7, t7⟩
            case measure => simp [intOf]; omega
          · obtain ⟨j, hkj, hjN, hja, hjw⟩ : ∃ j, k < j ∧ j < at'.length ∧ at'.getD j 0 = at'.getD k 0 ∧ 0 ≤ what.getD j 0 := hI.later k hkA (by show what.getD k 0 < 0; rw [← HY.out]; omega) (by show useB free (at'.getD k 0 - 1) = true; rw [HX.out]; exact hu)
            have hagain := again_yes at' what k j w6 o6 5 6 _ _ ra6 rw6 HL.out (by rw [← HN.out]; omega) hkj hjN hja hjw
            rw [← HN.out] at hagain
            clear s6 a4 t4 ra rw' hja hjw hkj hjN
            go_wp2_with fail
            refine hagain.mono ?_
            rintro e w6' ⟨rfl, m6, rfl⟩
            clear hagain
            go_wp2_with fail
            refine (hgone (w6.drewN m6) (by rw [HN.out]; exact ra6) (by rw [HN.out]; exact rw6)).mono ?_
            rintro e w7 ⟨rfl, wq, hlq, hq, r7, s7⟩
            have s7' := ((Step.refl (fun x => x = 6) w6 o6).drewN m6).trans s7
            have a7 := a6.step s7' (by unfold IL; omega)
            have ra7 := ra6.step s7' (by omega)
            have t7 := t6.trans (s7'.mono fun x h => by unfold Pos; omega)
            have hI7 := hI.drop (fw' := fun i => wq.getD i 0) x hxn hu (by omega) (fun i hi => by show wq.getD i 0 = _; rw [hq i]; simp only [hi, true_and])
            rw [← HN.out] at r7
            have HLQ : Hid (wq.length = at'.length) := hlq
            clear hgone hq s7 s7' hlq a6 ra6 rw6 t6
            go_wp2
            go_roundw
            case rel => (try ((repeat apply Exists.intro); refine ⟨?_, rfl⟩)); exact ⟨r + 1, by omega, by go_num, o6, n, _, _, at', wq, a7, by rw [HN.out]; exact ra7, by rw [← HN.out]; exact r7, HLQ.out, by rw [← HN.out]; omega, by omega, hI7, t7⟩
            case measure => simp [intOf]; omega
        · have hb2 : hasB n free (x + 1 : Nat) = false := by
            simp only [hasB, Bool.and_eq_false_iff, decide_eq_false_iff_not]
            right
            simpa using hu
          have hy0 : ¬ 0 ≤ y := fun h => hu (by
            have h3 : useB free (at'.getD k 0 - 1) = true := (hI.live k hkA (by show 0 ≤ what.getD k 0; rw [← HY.out]; exact h)).1
            rw [HX.out] at h3
            exact h3)
          go_wp2_with fail
          refine (dropOutArr _ o4 1 p room n (flat2 ts) free (x + 1 : Nat) hb2 a4).mono ?_
          rintro e w6 ⟨rfl, rfl⟩
          go_wp2
          go_roundw
          case rel => (try ((repeat apply Exists.intro); refine ⟨?_, rfl⟩)); exact ⟨r + 1, by omega, by go_num, o4, n, ts, free, at', what, a4, by rw [← HN.out]; exact ra, by rw [← HN.out]; exact rw', HL.out, by rw [← HN.out]; omega, by omega, hI.next, t4⟩
          case measure => simp [intOf]; omega
    · have hin' : r < len → ¬ r < 400 := fun h1 h2 => hin ⟨h1, h2⟩
      clear hin
      obtain ⟨N, hN⟩ : ∃ N, N = at'.length := ⟨_, rfl⟩
      obtain ⟨fa, hfa⟩ : ∃ fa : Nat → Nat, fa = fun i => at'.getD i 0 := ⟨_, rfl⟩
      obtain ⟨fw, hfw⟩ : ∃ fw : Nat → Int, fw = fun i => what.getD i 0 := ⟨_, rfl⟩
      rw [← hN, ← hfa, ← hfw] at hI
      rw [← hN] at ra rw' hN4
      have cAt : ∀ j, j < N → (intsL at')[j]? = some (.int .i64 (fa j : Nat)) := fun j hj => by rw [intsL_getD at' j (by omega), hfa]
      have cWh : ∀ j, j < N → (numsL what)[j]? = some (.int .i64 (fw j)) := fun j hj => by rw [numsL_get what j (by omega), hfw]
      have hform := ra.form
      obtain ⟨aA, cA, rfl⟩ := hform
      have hform := rw'.form
      obtain ⟨aW, cW, rfl⟩ := hform
      generalize intsL at' = LA at ra cAt
      generalize numsL what = LW at rw' cWh
      clear hN hfa hfw hl4
      clear at' what
      have hnr := a4.wf.le
      have hro := a4.wf.room
      by_cases hrl : r < len
      all_goals
        try have hr2 := hin' hrl
        clear hin'
        go_wp2
        go_loopw [15, 16] (fun c i wr => ∃ q : Nat, q ≤ N ∧ i = .int .i64 q ∧ c = .int .i64 (cntL q fw : Nat) ∧ AP wr o4 1 p room n ts free ∧ Row wr o4 5 3 1 (.slice aA N cA) N LA ∧ Row wr o4 6 3 1 (.slice aW N cW) N LW ∧ Step Pos w o0 wr o4) (fun _ i _ => N - (intOf i).toNat)
        case atStart => exact ⟨0, by omega, by go_num, rfl, a4, ra, rw', t4⟩
        case round =>
          obtain ⟨q, hq, rfl, rfl, a5, ra5, rw5, t5⟩ := hrel
          have hcq := cntL_le q fw
          by_cases hqN : q < N
          · obtain ⟨gA, cA', hv, hogA, hcapA, hmxA, hltA, hclA, _⟩ := ra5.pos (by omega)
            simp only [Value.slice.injEq, true_and] at hv
            obtain ⟨rfl, rfl⟩ := hv
            obtain ⟨gW, cW', hv, hogW, hcapW, hmxW, hltW, hclW, _⟩ := rw5.pos (by omega)
            simp only [Value.slice.injEq, true_and] at hv
            obtain ⟨rfl, rfl⟩ := hv
            unfold maxLen at hmxA hmxW
            have cA5 : ∀ j, j < N → wr.cell? ⟨gA, j, none⟩ = some (.int .i64 (fa j : Nat)) := fun j hj => (hclA j (by omega)).trans (cAt j hj)
            have cW5 : ∀ j, j < N → wr.cell? ⟨gW, j, none⟩ = some (.int .i64 (fw j)) := fun j hj => (hclW j (by omega)).trans (cWh j hj)
            have cAq := cA5 q hqN
            have cWq := cW5 q hqN
            have HA5 : Hid (∀ j, j < N → wr.cell? ⟨gA, j, none⟩ = some (.int .i64 (fa j : Nat))) := cA5
            have HW5 : Hid (∀ j, j < N → wr.cell? ⟨gW, j, none⟩ = some (.int .i64 (fw j))) := cW5
            clear cA5 cW5
            have hrq := hI.rng q hqN
            have hbq := hI.bd q hqN
            have hone := hI.one
            have hcs := cntL_succ q fw
            obtain ⟨y, hy⟩ : ∃ y, y = fw q := ⟨_, rfl⟩
            rw [← hy] at cWq hbq hcs
            have hlv := hI.live q hqN
            rw [← hy] at hlv
            by_cases hy0 : 0 ≤ y
            · obtain ⟨hu, hts⟩ := hlv hy0
              rw [if_pos hy0] at hcs
              obtain ⟨y', rfl⟩ : ∃ y' : Nat, y = y' := ⟨y.toNat, by omega⟩
              obtain ⟨x, hx⟩ : ∃ x, fa q = x + 1 := ⟨fa q - 1, by omega⟩
              rw [hx] at cAq hu hts hrq
              simp only [Nat.add_sub_cancel, Int.toNat_natCast] at hu hts
              have hy'r : y' < r := by omega
              obtain ⟨b, off, rfl, hb, hcell, hz1, hz2⟩ := ha.below t5.old y' (by omega)
              have hy'l : y' < len := by omega
              have HCS : Hid (cntL (q + 1) fw = cntL q fw + 1) := hcs
              have HX : Hid (fa q = x + 1) := hx
              have HY : Hid ((y' : Int) = fw q) := hy
              have hx1 : ¬ (room : Int) < ((x : Int) + 1) := by omega
              have hx2 : ¬ ((x : Int) + 1) < 1 := by omega
              clear hlv hcs hx hy hclA hclW
              go_wp2_with fail
              refine (getInArr _ o4 1 p room n ts free x y' (z y') (by omega) hu hts a5).mono ?_
              rintro e w6 ⟨rfl, s6⟩
              have a6 := a5.step s6 (fun _ _ => id)
              have ra6 := ra5.step s6 id
              have rw6 := rw5.step s6 id
              have t6 := t5.trans (s6.mono fun _ h => h.elim)
              have e6 : ∀ (g j : Nat), g < wr.heap.size → w6.cell? ⟨g, j, none⟩ = wr.cell? ⟨g, j, none⟩ := fun g j hg => World.cell?_of_block (w := wr) (s6.block g hg id)
              have HA6 : Hid (∀ j, j < N → w6.cell? ⟨gA, j, none⟩ = some (.int .i64 (fa j : Nat))) := fun j hj => (e6 gA j hltA).trans (HA5.out j hj)
              have HW6 : Hid (∀ j, j < N → w6.cell? ⟨gW, j, none⟩ = some (.int .i64 (fw j))) := fun j hj => (e6 gW j hltW).trans (HW5.out j hj)
              have cAq6 := (e6 gA q hltA).trans cAq
              have cWq6 := (e6 gW q hltW).trans cWq
              have hc6 := (e6 b (off + y') hb).trans hcell
              have hsz := s6.size
              have lA : gA < w6.heap.size := by omega
              have lW : gW < w6.heap.size := by omega
              have lb : b < w6.heap.size := by omega
              clear e6 s6 HA5 HW5 cAq cWq hcell hsz a5 ra5 rw5 t5 hltA hltW hb
              have hpe := fun wx => pair_eq_d 9998 (y' : Int) (z y') wx
              have hpe' : ∀ wx, (Op.equalIn 10000 53 (.agg #[.int .i64 (y' : Int), .int .i64 (z y')]) (.agg #[.int .i64 (y' : Int), .int .i64 (z y')])).run Try.prog wx = .ok true wx := hpe
              clear hpe
              go_wp2
              go_quiet (fail)
              clear hpe'
              go_wp2
              go_loopw [19] (fun i wv => ∃ k : Nat, k ≤ q ∧ i = .int .i64 k ∧ ∃ m, wv = (w6.alloc (.cells #[.int .i64 y', .int .i64 (z y')] 53)).drewN m) (fun i _ => q - (intOf i).toNat)
              case atStart => exact ⟨0, by omega, by go_num, _, rfl⟩
              case round =>
                obtain ⟨k, hk, rfl, m, rfl⟩ := hrel
                by_cases hkq : k < q
                · have hkN : k < N := by omega
                  have cAk := HA6.out k hkN
                  have cWk := HW6.out k hkN
                  by_cases hyk : 0 ≤ fw k
                  · have hne : ((fa k : Int) == ((x : Int) + 1)) = false := by
                      simp only [beq_eq_false_iff_ne, ne_eq]
                      intro e
                      have := hone k q hkq hqN (by rw [HX.out]; omega)
                      omega
                    go_wp2
                    go_quiet (fail)
                    go_wp2
                    go_roundw
                    case rel => (try ((repeat apply Exists.intro); refine ⟨?_, rfl⟩)); exact ⟨k + 1, by omega, by go_num, _, rfl⟩
                    case measure => simp [intOf]; omega
                  · have hyk' : decide (0 ≤ fw k) = false := by simpa using hyk
                    go_wp2
                    go_quiet (fail)
                    go_wp2
                    go_roundw
                    case rel => (try ((repeat apply Exists.intro); refine ⟨?_, rfl⟩)); exact ⟨k + 1, by omega, by go_num, _, rfl⟩
                    case measure => simp [intOf]; omega
                · obtain rfl : k = q := by omega
                  go_wp2
                  go_roundw
                  case rel => (try ((repeat apply Exists.intro); refine ⟨?_, rfl⟩)); exact ⟨k + 1, by omega, by go_num, by rw [HCS.out]; go_num, (a6.step (allocStep (fun _ => False) w6 o4 _) (fun _ _ => id)).drewN m, ra6.step ((allocStep (fun _ => False) w6 o4 _).drewN m) id, rw6.step ((allocStep (fun _ => False) w6 o4 _).drewN m) id, (t6.alloc _).drewN m⟩
                  case measure => simp [intOf]; omega
            · have hyn : y < 0 := by omega
              rw [if_neg hy0] at hcs
              have HCS : Hid (cntL (q + 1) fw = cntL q fw + 0) := hcs
              clear hcs hlv hclA hclW hy HA5 HW5
              go_wp2
              go_roundw
              case rel => (try ((repeat apply Exists.intro); refine ⟨?_, rfl⟩)); exact ⟨q + 1, by omega, by go_num, by rw [HCS.out]; rfl, a5, ra5, rw5, t5⟩
              case measure => simp [intOf]; omega
          · obtain rfl : q = N := by omega
            have hlen5 := lenArr _ o4 1 p room n (flat2 ts) free a5
            rw [← hI.cnt] at hlen5
            have hall := fun wx hh => allArr wx o4 1 p room n 7 (flat2 ts) free (by unfold IL; omega) hh
            have hcn : (allL n free).length = cntL q fw := by rw [allL_count a5.wf, hI.cnt]
            rw [hcn] at hall
            clear hcn hI a4 ra rw' t4 ha
            go_wp2_with fail
            refine hlen5.mono ?_
            rintro e w6 ⟨rfl, m6, rfl⟩
            go_wp2_with fail
            refine (hall _ (a5.drewN m6)).mono ?_
            rintro e w7 ⟨g7, c7, o7, rfl, r7, s7⟩
            have t7 : Below w.heap.size w w7 := ((t5.drewN m6).trans (s7.mono fun x h => by unfold Pos; omega)).old
            clear hall hlen5 r7 s7 t5 a5 ra5 rw5
            go_wp2
            go_ret
            exact ⟨ret_bool (by simp), t7⟩

end Go.Proofs.Ytbcpifklnbaooaa
