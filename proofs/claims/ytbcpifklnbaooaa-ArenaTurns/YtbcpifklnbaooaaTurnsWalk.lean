/- The walk of the law ArenaTurns. -/
import Derived.Test.YtbcpifklnbaooaaLaw
import Derived.Test.YtbcpifklnbaooaaArInt
namespace Go.Proofs.Ytbcpifklnbaooaa
open Go.ChangeShapes Go.WideShapes Go.ChangeAt Go.RowKit
set_option linter.unusedVariables false

abbrev AI (w : World) (o : Nat → Nat) (L p room n : Nat) (cs : List Value) (free : List Nat) : Prop := Ar 70 3 1 w o L p room n cs free
theorem IL.pos {L k : Nat} (h : IL L k) (hL : 0 < L) : Pos k := Nat.lt_of_lt_of_le hL h.1

set_option maxRecDepth 100000 in
set_option maxHeartbeats 4000000 in
theorem turns_walk (c : Int) (ao : Option Addr) (len cap : Nat) (z : Nat → Int) (w : World) (h1 : -9223372036854775808 ≤ c) (h2 : c ≤ 9223372036854775807) (hlen : len * 8 ≤ 140737488351232) (ha : Arg w ao len z) :
    Calls Try.prog 5 #[.int .i64 c, .slice ao len cap] w fun e w' => e = .returned (.bool true) ∧ Below w.heap.size w w' := by
  go_enter Try.func5, Try.ntmps5
  go_wp2_with fail
  refine (awake_any w).mono ?_
  rintro e w1 ⟨rfl, hb1⟩
  go_wp2_with fail
  refine (pick_any c 100 _ h1 h2 (by omega) (by omega)).mono ?_
  rintro e w2 ⟨r, hr, rfl, rfl⟩
  have t1 : Step Pos w o0 w2 o0 := Step.ofBelow o0 hb1
  obtain ⟨m, hm⟩ : ∃ m : Nat, m = 1 + r := ⟨_, rfl⟩
  have em : 1 + (r : Int) = (m : Int) := by omega
  have hm1 : 1 ≤ m := by omega
  have hm2 : m ≤ 100 := by omega
  clear hm hb1 h1 h2
  go_wp2_with fail
  refine (newInt w2 o0 1 (m + 20) (by omega)).mono ?_
  rintro e w3 ⟨rfl, o3, a3, s3⟩
  have t3 : Step Pos w o0 w3 o3 := t1.trans (s3.mono fun _ h => h.elim)
  obtain ⟨p, hp⟩ : ∃ p, p = w2.heap.size := ⟨_, rfl⟩
  rw [← hp] at a3 ⊢
  clear hp t1 s3 em hr
  go_wp2
  go_loopw [8] (fun i wr => ∃ k : Nat, k ≤ m ∧ i = .int .i64 (k + 1 : Nat) ∧ ∃ o' cs, AI wr o' 1 p (m + 20) k cs [] ∧ Step Pos w o0 wr o') (fun i _ => m + 1 - (intOf i).toNat)
  case atStart => exact ⟨0, by omega, rfl, o3, _, a3, t3⟩
  case round =>
    obtain ⟨k, hk, rfl, o4, cs, a4, t4⟩ := hrel
    by_cases hlt : k < m
    · go_wp2_with fail
      refine (putPushInt wr o4 1 p (m + 20) k cs _ (by omega) a4).mono ?_
      rintro e w5 ⟨rfl, o5, a5, s5⟩
      have t5 := t4.trans (s5.mono fun x h => h.pos (by omega))
      go_wp2
      go_roundw
      case rel => (try ((repeat apply Exists.intro); refine ⟨?_, rfl⟩)); exact ⟨k + 1, by omega, by go_num, o5, _, a5, t5⟩
      case measure => simp [intOf]; omega
    · obtain rfl : k = m := by omega
      clear hlt hk
      go_wp2
      go_loopw [11, 12] (fun v i wr => ∃ j : Nat, j ≤ len ∧ i = .int .i64 j ∧ ∃ o' cs free, AI wr o' 1 p (k + 20) k cs free ∧ Row wr o' 5 3 1 v free.length (intsL free) ∧ Step Pos w o0 wr o') (fun _ i _ => len - (intOf i).toNat)
      case atStart => exact ⟨0, by omega, rfl, o4, cs, [], a4, Row.nil _ _ _ _ _, t4⟩
      case round =>
        obtain ⟨j, hj, rfl, o5, cs5, D, a5, r5, t5⟩ := hrel
        by_cases hin : j < len ∧ j < 200
        · obtain ⟨hjl, hj2⟩ := hin
          obtain ⟨b, off, rfl, hb, hcell, hz1, hz2⟩ := ha.below t5.old j hjl
          go_wp2_with fail
          refine (pick_any (z j) k _ hz1 hz2 (by omega) (by omega)).mono ?_
          rintro e w6 ⟨q, hq, rfl, rfl⟩
          have eq : 1 + (q : Int) = (q + 1 : Nat) := by omega
          have hDn := a5.wf.free_le
          by_cases hu : useB D q = true
          · go_wp2_with fail
            refine (dropInInt _ o5 1 p (k + 20) k cs5 D q hq hu a5).mono ?_
            rintro e w7 ⟨rfl, o7, a7, s7⟩
            have r7 := r5.step s7 (by unfold IL; omega)
            have t7 := t5.trans (s7.mono fun x h => h.pos (by omega))
            obtain ⟨ii, hii, hzi0, hzi1, hzi2⟩ := info_parts infoInt
            go_wp2_with (first | (at_builtin; refine wpList_append_lab rfl (.tmp 84) (.tmp 86) 35 rfl 3 ii (.int .i64 0) 1 8 Try.underlying35 hii hzi0 hzi1 hzi2 rfl (by decide) o7 5 _ D.length (intsL D) rfl (r7.step (allocStep (fun _ => False) _ o7 _) (by simp)) ⟨w7.heap.size, 0, none⟩ 1 1 [.int .i64 ((q : Int) + 1)] rfl rfl ?d1 ?d2 (by decide) ?d3 ?d4 ?_) | go_in)
            case d1 => exact new_one_at (by simp) _ _
            case d2 => intro u hu; simp at hu; subst hu; rfl
            case d3 => unfold maxLen; omega
            case d4 => omega
            intro g cap8 w8 o8 hr hs
            have s8 := (allocStep (fun x => x = 5) w7 o7 _).trans hs
            have a8 := a7.step s8 (by unfold IL; omega)
            have t8 := t7.trans (s8.mono fun x h => by unfold Pos; omega)
            have e2 : intsL D ++ [.int .i64 ((q : Int) + 1)] = intsL (D ++ [q + 1]) := by simp [intsL]
            rw [e2] at hr
            have e3 : D.length + 1 = (D ++ [q + 1]).length := by simp
            clear hs s8 t7 r7 s7 a7 e2 a5 r5 t5
            go_wp2
            go_roundw
            case rel => (try ((repeat apply Exists.intro); refine ⟨?_, rfl⟩)); exact ⟨j + 1, by omega, by go_num, o8, _, _, a8, by rw [← e3]; exact hr, t8⟩
            case measure => simp [intOf]; omega
          · have hb2 : hasB k D (q + 1 : Nat) = false := by
              simp only [hasB, Bool.and_eq_false_iff, decide_eq_false_iff_not]
              right
              simpa using hu
            go_wp2_with fail
            refine (dropOutInt _ o5 1 p (k + 20) k cs5 D (q + 1 : Nat) hb2 a5).mono ?_
            rintro e w7 ⟨rfl, rfl⟩
            go_wp2
            go_roundw
            case rel => (try ((repeat apply Exists.intro); refine ⟨?_, rfl⟩)); exact ⟨j + 1, by omega, by go_num, o5, _, _, a5, r5, t5⟩
            case measure => simp [intOf]; omega
        · have hin' : j < len → ¬ j < 200 := fun h1 h2 => hin ⟨h1, h2⟩
          clear hin
          obtain ⟨aD, cD, rfl⟩ := r5.form
          have hDn := a5.wf.free_le
          have t5' := t5
          clear ha
          by_cases hjl : j < len
          all_goals
            try have hj2 := hin' hjl
            clear hin'
            go_wp2
            go_loopw [14] (fun i wr => ∃ q : Nat, q ≤ D.length ∧ i = .int .i64 ((q : Int) - 1) ∧ ∃ o' cs, AI wr o' 1 p (k + 20) k cs (D.take q) ∧ Row wr o' 5 3 1 (.slice aD D.length cD) D.length (intsL D) ∧ Step Pos w o0 wr o') (fun i _ => (intOf i + 1).toNat)
            case atStart => exact ⟨D.length, by omega, by go_num, o5, cs5, by rw [List.take_length]; exact a5, r5, t5⟩
            case round =>
              obtain ⟨q, hq, rfl, o6, cs6, a6, r6, t6⟩ := hrel
              have hDk := a5.wf
              by_cases hq0 : q = 0
              · subst hq0
                rw [List.take_zero] at a6
                clear r6 hDk t5' a5 r5 t5 hq
                go_wp2
                go_loopw [19] (fun i wr => ∃ y : Nat, y ≤ 20 ∧ i = .int .i64 (y + 1 : Nat) ∧ ∃ o' cs, AI wr o' 1 p (k + 20) (k + y) cs [] ∧ Step Pos w o0 wr o') (fun i _ => 21 - (intOf i).toNat)
                case atStart => exact ⟨0, by omega, by go_num, o6, cs6, a6, t6⟩
                case round =>
                  obtain ⟨y, hy, rfl, o7, cs7, a7, t7⟩ := hrel
                  by_cases hlt : y < 20
                  · go_wp2_with fail
                    refine (putPushInt wr o7 1 p (k + 20) (k + y) cs7 _ (by omega) a7).mono ?_
                    rintro e w8 ⟨rfl, o8, a8, s8⟩
                    have t8 := t7.trans (s8.mono fun x h => h.pos (by omega))
                    clear a7 t7 s8
                    have e0 : ((k + y + 1 : Nat) : Int) = (k : Int) + ((y : Int) + 1) := by omega
                    go_wp2
                    go_roundw
                    case rel => (try ((repeat apply Exists.intro); refine ⟨?_, rfl⟩)); exact ⟨y + 1, by omega, by go_num, o8, _, a8, t8⟩
                    case measure => simp [intOf]; omega
                  · obtain rfl : y = 20 := by omega
                    go_wp2_with fail
                    refine (putFullInt _ o7 1 p (k + 20) (k + 20) cs7 [] _ (by simp) a7).mono ?_
                    rintro e w8 ⟨rfl, m8, rfl⟩
                    go_wp2_with fail
                    refine (lenInt _ o7 1 p (k + 20) (k + 20) cs7 [] (a7.drewN m8)).mono ?_
                    rintro e w9 ⟨rfl, m9, rfl⟩
                    have bb : Below w.heap.size w (wr.drewN (m8 + m9)) := below_drew t7.old _
                    clear a7 t7
                    go_wp2
                    go_ret
                    exact ⟨ret_bool (by simp), bb⟩
              · obtain ⟨q', rfl⟩ : ∃ q', q = q' + 1 := ⟨q - 1, by omega⟩
                have hqD : q' < D.length := by omega
                obtain ⟨x, hx⟩ : ∃ x, D[q'] = x + 1 := ⟨D[q'] - 1, by have := (hDk.mem _ (List.getElem_mem hqD)).1; omega⟩
                have hxk : x < k := by have := (hDk.mem _ (List.getElem_mem hqD)).2; omega
                have et : D.take (q' + 1) = D.take q' ++ [x + 1] := by rw [List.take_succ_eq_append_getElem hqD, hx]
                have hux : useB (D.take q') x = true := by
                  have hnd : (D.take q' ++ [x + 1]).Nodup := by rw [← et]; exact hDk.nodup.take
                  have := (List.nodup_append.1 hnd).2.2
                  simp only [useB, Bool.not_eq_true', List.contains_eq_mem, decide_eq_false_iff_not]
                  intro hmem
                  exact this _ hmem _ (by simp) rfl
                rw [et] at a6
                have hgr := r6.pos (by omega)
                obtain ⟨g, cap9, hv, hog, hnc, hmx, hgl, hcl, hfr⟩ := hgr
                simp only [Value.slice.injEq] at hv
                obtain ⟨rfl, _, rfl⟩ := hv
                clear hDk a5 r5 t5 t5' et hmx
                have hcq : ∀ (wx : World), wx.cell? ⟨g, q', none⟩ = wr.cell? ⟨g, q', none⟩ → wx.cell? ⟨g, q', none⟩ = some (.int .i64 (x + 1 : Nat)) := fun wx h => h.trans ((hcl q' (by omega)).trans (by rw [intsL_get D q' hqD, hx]))
                have eqq : ((q' + 1 : Nat) : Int) - 1 = (q' : Int) := by omega
                rw [eqq]
                go_wp2_with fail
                refine (putPopInt wr o6 1 p (k + 20) k cs6 (D.take q') x _ a6).mono ?_
                rintro e w7 ⟨rfl, o7, a7, s7⟩
                have r7 := r6.step s7 (by unfold IL; omega)
                have t7 := t6.trans (s7.mono fun x h => h.pos (by omega))
                have hc7 := hcq w7 (World.cell?_of_block (w := wr) (s7.block g hgl (by rw [hog]; unfold IL; omega)))
                have hcs : cs6.length = k := by obtain ⟨_, _, _, _, hh, _⟩ := a6; rw [hh.len]; omega
                clear hcl hcq s7 r6 t6 a6 hfr
                go_wp2_with fail
                refine (getInInt _ o7 1 p (k + 20) k _ (D.take q') x q' hxk hux (by simp [hcs, hxk]) a7).mono ?_
                rintro e w8 ⟨rfl, rfl⟩
                clear hcs
                go_wp2
                go_roundw
                case rel => (try ((repeat apply Exists.intro); refine ⟨?_, rfl⟩)); exact ⟨q', by omega, by go_num, o7, _, a7, r7, t7⟩
                case measure => simp [intOf]

end Go.Proofs.Ytbcpifklnbaooaa
