/- The law VsetAlike, walked: a set is what its numbers are. -/
import Derived.Test.YtabkbldhiigcgaaDoorBoxes
namespace Go.Proofs.YtabkbldhiigcgaaDoor
open Go.ChangeShapes Go.WideShapes Go.ChangeAt Go.RowKit Go.Maps
set_option linter.unusedVariables false
set_option linter.unusedSimpArgs false

/-- What the loops that make the second list keep: the set's box, its numbers, the list so far. -/
def AlkJ (w wr : World) (o : Nat → Nat) (p6 x : Nat) (va vb : Value) (bl : List Nat) : Prop :=
  Blk wr o 4 p6 (.cells #[.int .u64 (x : Nat)] 27 (0, 0)) ∧ Row wr o 2 3 1 va (al x).length (intsL (al x)) ∧ Row wr o 3 3 1 vb bl.length (intsL bl) ∧ TzL wr o ∧ Step (fun k => k ≠ 0) w z9 wr o
theorem old9 (w : World) : ∀ k, k < w.heap.size → ¬ (z9 k ≠ 0) := fun k _ h => h rfl
/-- A number of a row, where it lies. -/
theorem Row.at9 {w : World} {o : Nat → Nat} {i : Nat} {v : Value} {l : List Nat} (h : Row w o i 3 1 v l.length (intsL l)) (j : Nat) (hj : j < l.length) : ∃ g cap, v = .slice (some ⟨g, 0, none⟩) l.length cap ∧ w.cell? ⟨g, j, none⟩ = some (.int .i64 (l[j] : Nat)) := by
  obtain ⟨g, cap, rfl, hg, hc, hm, hlt, hcell, hfr⟩ := h.pos (by omega)
  exact ⟨g, cap, rfl, by rw [hcell j (by omega), intsL_get l j hj]⟩
theorem AlkJ.put {w wr w' : World} {o o' : Nat → Nat} {p6 x : Nat} {va vb vb' : Value} {bl bl' : List Nat} (h : AlkJ w wr o p6 x va vb bl) (s : Step (fun k => k = 3) wr o w' o') (r : Row w' o' 3 3 1 vb' bl'.length (intsL bl')) : AlkJ w w' o' p6 x va vb' bl' :=
  ⟨h.1.step s (by omega), h.2.1.step s (by omega), r, h.2.2.2.1.step s (by omega), h.2.2.2.2.trans (s.mono fun k hk => by omega)⟩
theorem rev_at (l : List Nat) (k : Nat) (hk : k < l.length) : (l.reverse.take (k + 1)) = l.reverse.take k ++ [l[l.length - 1 - k]] := by
  rw [List.take_add_one, List.getElem?_eq_getElem (by simpa using hk), List.getElem_reverse]
  rfl

theorem nx_m5 (x : Nat) : nx x (-5) = nx x 0 := rfl
theorem nx_64 (x : Nat) (hx : x < top64) : nx x 64 = -1 := by
  rcases nx_spec x 64 hx with ⟨h, _⟩ | ⟨k, _, h2, h3, _⟩
  · exact h
  · omega
theorem AllRel.at9 {x k : Nat} {done : List Nat} (h : done ++ els x k = al x) (hk : k < 64) (hb : x.testBit k = true) : (al x).getD done.length 0 = k ∧ done.length < (al x).length := by
  rw [← h, els_step x k hk, if_pos hb]
  simp [List.getD]
set_option maxHeartbeats 8000000 in
set_option maxRecDepth 100000 in
theorem alike_walk (w : World) (a0 a1 : Option Addr) (n0 c0 n1 c1 : Nat) (f0 f1 : Nat → Int) (h0 : Ints w a0 n0 f0) (h1 : Ints w a1 n1 f1) (m0 : n0 ≤ maxLen) (m1 : n1 ≤ maxLen) (hT : Tz w) (hW : Wd w) :
    Calls Tryd.prog 5 #[.slice a0 n0 c0, .slice a1 n1 c1] w fun e w' => e = .returned (.bool true) ∧ Below w.heap.size w w' := by
  go_enter Tryd.func5, Tryd.ntmps5
  go_wp2_with fail
  refine (awake_c w hT hW).mono ?_
  rintro e w1 ⟨rfl, hb1⟩
  have H1 := h0.below hb1 (Nat.le_refl _)
  go_wp2_with fail
  refine (ofl_c w1 a0 n0 c0 f0 H1 m0).mono ?_
  rintro e w2 ⟨x, rfl, ⟨hx, hxb⟩, hb2⟩
  have B2 := bjoin hb1 hb2
  have T2 : TzL w2 z9 := ⟨hT.below B2, rfl⟩
  have s2 : Step (fun k => k ≠ 0) w z9 w2 z9 := Step.ofBelow z9 B2
  have s3 := newStep (fun k => k ≠ 0) w2 z9 4 (.cells #[.int .u64 (x : Nat)] 27)
  have K3 : Blk (w2.alloc (.cells #[.int .u64 (x : Nat)] 27)) (newLab w2 z9 4) 4 w2.heap.size (.cells #[.int .u64 (x : Nat)] 27 (0, 0)) := ⟨heap_alloc_new w2 _, newLab_new (Nat.le_refl _)⟩
  have T3 := T2.step s3 (by simp)
  have S3 := s2.trans s3
  generalize newLab w2 z9 4 = o3 at s3 K3 T3 S3
  obtain ⟨p6, hp⟩ : ∃ b, b = w2.heap.size := ⟨_, rfl⟩
  have HP : Hid (p6 = w2.heap.size) := hp
  rw [← hp] at K3
  obtain ⟨w3, hw3⟩ : ∃ w3, w3 = w2.alloc (.cells #[.int .u64 (x : Nat)] 27) := ⟨_, rfl⟩
  rw [← hw3] at K3 T3 S3
  have c3 := K3.cell1.1
  clear hp H1 hb1 hb2 B2 T2 s2 s3 hT hW
  go_upto_region 3 with fail
  rw [← hw3, ← HP.out]
  clear hw3 HP
  go_wp2_with fail
  refine (all_c x w3 o3 2 hx T3 (by decide)).mono ?_
  rintro e w4 ⟨va, o4, rfl, R4, s4⟩
  have J0 : AlkJ w w4 o4 p6 x va (.slice none 0 0) [] := ⟨K3.step s4 (by omega), R4, Row.nil _ _ _ _ _, T3.step s4 (by omega), S3.trans (s4.mono fun k hk => by omega)⟩
  have hal := al_len_le x
  have hax : ∀ y, y ∈ al x → y < 64 := fun y hy => bit_lt hx ((al_mem x y hx).1 hy)
  have hlen := R4.form
  obtain ⟨aa, ca, rfl⟩ := hlen
  obtain ⟨ln, hln⟩ : ∃ ln, ln = (al x).length := ⟨_, rfl⟩
  have HLN : Hid (ln = (al x).length) := hln
  have hln64 : ln ≤ 64 := by omega
  rw [← hln] at J0
  clear K3 T3 S3 R4 s4 c3 hln hal
  rw [← HLN.out]
  go_upto_block 0 with fail
  go_cut [8] (fun v8 wx => ∃ o', AlkJ w wx o' p6 x (.slice aa ln ca) v8 (al x).reverse)
  case first =>
    as_aux_lemma =>
      have ew : IntKind.i64.wrap ((ln : Int) - 1) = (ln : Int) - 1 := by rw [IntKind.wrap_i64]; omega
      go_wp2_with fail
      go_loopw [8, 9] (fun v8 v9 wr => ∃ (k : Nat) (o' : Nat → Nat), k ≤ ln ∧ v9 = .int .i64 ((ln : Int) - 1 - (k : Int)) ∧ AlkJ w wr o' p6 x (.slice aa ln ca) v8 ((al x).reverse.take k)) (fun _ v9 _ => (intOf v9 + 1).toNat)
      case atStart => exact ⟨0, o4, by omega, by go_num, J0⟩
      case round =>
        obtain ⟨k, o', hk, rfl, hJ⟩ := hrel
        clear J0
        by_cases hlt : k < ln
        · have hlx := HLN.out
          obtain ⟨g, cap, hv, hc⟩ := hJ.2.1.at9 (ln - 1 - k) (by omega)
          simp only [Value.slice.injEq] at hv
          obtain ⟨rfl, hq, rfl⟩ := hv
          clear hq
          have hrv := rev_at (al x) k (by omega)
          simp only [← hlx] at hrv
          have hmem : (al x)[ln - 1 - k]'(by omega) < 64 := hax _ (List.getElem_mem _)
          generalize hy : (al x)[ln - 1 - k]'(by omega) = y at hc hrv hmem
          have HRV : Hid (List.take (k + 1) (al x).reverse = List.take k (al x).reverse ++ [y]) := hrv
          have hbl : (List.take k (al x).reverse).length ≤ 64 := by rw [List.length_take]; omega
          obtain ⟨m, hm⟩ : ∃ m : Nat, (ln : Int) - 1 - (k : Int) = (m : Int) := ⟨ln - 1 - k, by omega⟩
          rw [show ln - 1 - k = m by omega] at hc
          have hmI : IntKind.i64.wrap ((m : Int) - 1) = (m : Int) - 1 := by rw [IntKind.wrap_i64]; omega
          have HM2 : Hid ((m : Int) = (ln : Int) - 1 - (k : Int)) := hm.symm
          have hm0 : (0 : Int) ≤ (m : Int) := by omega
          have hmln : (m : Int) < (ln : Int) := by omega
          rw [hm]
          clear hm hy hrv hlx ew
          obtain ⟨ii, hii, hzi0, hzi1, hzi2⟩ := info_parts infoInt
          have hR := hJ.2.2.1
          generalize hbk : List.take k (al x).reverse = bl at *
          clear hbk
          go_wp2_with (first | (at_builtin; refine wpList_append_lab rfl (.tmp 29) (.tmp 34) 37 rfl 3 ii (.int .i64 0) 1 8 Tryd.underlying37 hii hzi0 hzi1 hzi2 rfl (by decide) o' 3 _ bl.length (intsL bl) rfl (hR.step (allocStep (fun _ => False) _ o' _) (by simp)) ⟨wr.heap.size, 0, none⟩ 1 1 [.int .i64 (y : Nat)] rfl rfl ?c1 ?c2 (by decide) ?c3 ?c4 ?_) | go_in)
          case c1 => exact new_one _ _ _
          case c2 => intro u hu; simp at hu; subst hu; rfl
          case c3 => unfold maxLen; omega
          case c4 => omega
          intro g3 cap3 w5 o5 R5 s5'
          have s5 : Step (fun k => k = 3) wr o' w5 o5 := (allocStep _ wr o' _).trans s5'
          have RR : AlkJ w w5 o5 p6 x (.slice (some ⟨g, 0, none⟩) ln ca) (.slice (some ⟨g3, 0, none⟩) (bl.length + 1) cap3) (List.take (k + 1) (al x).reverse) := by
            rw [HRV.out]
            exact hJ.put s5 (by simpa [intsL] using R5)
          clear s5' hR hJ s5 R5 HRV hc
          go_wp2
          go_roundw
          case rel => (try ((repeat apply Exists.intro); refine ⟨?_, rfl⟩)); exact ⟨k + 1, o5, by omega, by rw [HM2.out]; congr 1; omega, RR⟩
          case measure => rw [HM2.out]; simp [intOf]; omega
        · obtain rfl : k = ln := by omega
          have e1 : List.take k (al x).reverse = (al x).reverse := List.take_of_length_le (by rw [List.length_reverse]; exact Nat.le_of_eq HLN.out.symm)
          rw [e1] at hJ
          have hneg : ¬ (0 : Int) ≤ (k : Int) - 1 - (k : Int) := by omega
          clear e1 ew
          go_wp2
          go_meet
          exact ⟨o', hJ⟩
  case rest =>
  clear J0
  obtain ⟨o5, J5⟩ := hcut
  obtain ⟨w5, rfl⟩ : ∃ v, v = wc := ⟨_, rfl⟩
  go_upto_block 2 with fail
  go_cut [8] (fun v8 wx => ∃ o' M, AlkJ w wx o' p6 x (.slice aa ln ca) v8 ((al x).reverse ++ M) ∧ (∀ y, y ∈ M → y ∈ al x) ∧ M.length ≤ 100)
  case first =>
    as_aux_lemma =>
      unfold maxLen at m1
      go_wp2_with fail
      go_loopw [8, 10] (fun v8 v10 wr => ∃ (k : Nat) (o' : Nat → Nat) (M : List Nat), k ≤ n1 ∧ k ≤ 100 ∧ v10 = .int .i64 (k : Nat) ∧ AlkJ w wr o' p6 x (.slice aa ln ca) v8 ((al x).reverse ++ M) ∧ (∀ y, y ∈ M → y ∈ al x) ∧ M.length ≤ k) (fun _ v10 _ => n1 - (intOf v10).toNat)
      case atStart => exact ⟨0, o5, [], by omega, by omega, by go_num, by simpa using J5, fun y hy => by simp at hy, by simp⟩
      case round =>
        obtain ⟨k, o', M, hk, hk1, rfl, hJ, hM, hMl⟩ := hrel
        clear J5
        by_cases hlt : k < n1
        · have g1 : (k : Int) < (n1 : Int) := by omega
          by_cases hlt2 : k < 100
          · have g2 : (k : Int) < 100 := by omega
            by_cases hlt3 : 0 < ln
            · have g3 : (0 : Int) < (ln : Int) := by omega
              have hlx := HLN.out
              obtain ⟨bb, off, rfl, hbb, hc0, hi1, hi2⟩ := h1 k hlt
              have hc := ((hJ.2.2.2.2.below (old9 w)).cell (p := ⟨bb, off + k, none⟩) hbb).trans hc0
              have hpk := pk_lt (f1 k) ln hlt3
              obtain ⟨g, cap, hv, hca⟩ := hJ.2.1.at9 (pk (f1 k) ln) (by omega)
              simp only [Value.slice.injEq] at hv
              obtain ⟨rfl, hq, rfl⟩ := hv
              clear hq
              have hmem : (al x)[pk (f1 k) ln]'(by omega) ∈ al x := List.getElem_mem _
              generalize (al x)[pk (f1 k) ln]'(by omega) = y at hca hmem
              have hpc := pick_c (f1 k) ln
              generalize f1 k = fk at hc hi1 hi2 hpk hpc hca
              generalize pk fk ln = m at hpk hpc hca
              have hmI : (m : Int) < (ln : Int) := by omega
              have hbl : ((al x).reverse ++ M).length ≤ 164 := by rw [List.length_append, List.length_reverse]; omega
              have hR := hJ.2.2.1
              have hM' : ∀ z, z ∈ M ++ [y] → z ∈ al x := fun z hz => by
                rcases List.mem_append.1 hz with h | h
                · exact hM z h
                · rw [List.mem_singleton.1 h]; exact hmem
              have hMl' : (M ++ [y]).length ≤ k + 1 := by rw [List.length_append]; simp; omega
              have HAP : Hid ((al x).reverse ++ (M ++ [y]) = ((al x).reverse ++ M) ++ [y]) := by show _ = _; rw [List.append_assoc]
              obtain ⟨ii, hii, hzi0, hzi1, hzi2⟩ := info_parts infoInt
              clear hc0 hlx
              generalize (al x).reverse ++ M = bl at *
              go_wp2_with fail
              refine (hpc _ hi1 hi2 hlt3 (by omega)).mono ?_
              rintro e w6 ⟨rfl, rfl⟩
              go_wp2_with (first | (at_builtin; refine wpList_append_lab rfl (.tmp 51) (.tmp 62) 37 rfl 3 ii (.int .i64 0) 1 8 Tryd.underlying37 hii hzi0 hzi1 hzi2 rfl (by decide) o' 3 _ bl.length (intsL bl) rfl (hR.step (allocStep (fun _ => False) _ o' _) (by simp)) ⟨w6.heap.size, 0, none⟩ 1 1 [.int .i64 (y : Nat)] rfl rfl ?c1 ?c2 (by decide) ?c3 ?c4 ?_) | go_in)
              case c1 => exact new_one _ _ _
              case c2 => intro u hu; simp at hu; subst hu; rfl
              case c3 => unfold maxLen; omega
              case c4 => omega
              intro g3' cap3 w7 o7 R7 s7'
              have s7 : Step (fun k => k = 3) w6 o' w7 o7 := (allocStep _ w6 o' _).trans s7'
              have RR : AlkJ w w7 o7 p6 x (.slice (some ⟨g, 0, none⟩) ln ca) (.slice (some ⟨g3', 0, none⟩) (bl.length + 1) cap3) ((al x).reverse ++ (M ++ [y])) := by
                rw [HAP.out]
                exact hJ.put s7 (by simpa [intsL] using R7)
              clear s7' hR hJ s7 R7 HAP hc hca hpc
              go_wp2
              go_roundw
              case rel => (try ((repeat apply Exists.intro); refine ⟨?_, rfl⟩)); exact ⟨k + 1, o7, M ++ [y], by omega, by omega, by go_num, RR, hM', hMl'⟩
              case measure => simp [intOf]; omega
            · have g3 : ¬ (0 : Int) < (ln : Int) := by omega
              clear hlt3
              go_wp2
              go_meet
              exact ⟨o', M, hJ, hM, by omega⟩
          · have g2 : ¬ (k : Int) < 100 := by omega
            clear hlt2
            go_wp2
            go_meet
            exact ⟨o', M, hJ, hM, by omega⟩
        · have g1 : ¬ (k : Int) < (n1 : Int) := by omega
          clear hlt
          go_wp2
          go_meet
          exact ⟨o', M, hJ, hM, by omega⟩
  case rest =>
  clear J5 h1
  obtain ⟨o6, M, J6, hM, hMl⟩ := hcut
  obtain ⟨w6, rfl⟩ : ∃ v, v = wc := ⟨_, rfl⟩
  have hblm : ∀ y, y ∈ (al x).reverse ++ M ↔ y ∈ al x := fun y => by
    rw [List.mem_append, List.mem_reverse]
    exact ⟨fun h => h.elim id (hM y), .inl⟩
  have hbll : ((al x).reverse ++ M).length ≤ 164 := by rw [List.length_append, List.length_reverse, ← HLN.out]; omega
  generalize (al x).reverse ++ M = bl at J6 hblm hbll
  obtain ⟨ab, cb, rfl, IB⟩ := J6.2.2.1.ints (fun y hy => by have := hax y ((hblm y).1 hy); omega)
  have hof := of_c w6 ab bl.length cb _ IB (by unfold maxLen; omega)
  have OO : Hid (∀ s er, OfOut (fun j => (bl.getD j 0 : Nat)) bl.length s er → s = x ∧ er = 0) := fun s er ho => by
    obtain ⟨q1, q2, q3⟩ := OfOut.list (fun y hy => hax y ((hblm y).1 hy)) ho
    exact ⟨ext64 q2 hx (fun i _ => Bool.eq_iff_iff.2 ((q3 i).trans ((hblm i).trans (al_mem x i hx)))), q1⟩
  obtain ⟨aa', ca', hva, IA⟩ := J6.2.1.ints (fun y hy => by have := hax y hy; omega)
  have X6 : Box w6 p6 x := ⟨J6.1.cell1.1, J6.1.lt⟩
  have T6 := J6.2.2.2.1.1
  have BB := J6.2.2.2.2.below (old9 w)
  rw [← HLN.out] at hva IA
  simp only [Value.slice.injEq] at hva
  obtain ⟨rfl, hq, rfl⟩ := hva
  clear hq J6 hM hMl IB
  generalize bl.length = bn at hof OO hbll
  go_wp2_with fail
  refine hof.mono ?_
  rintro e v1 ⟨x', er, rfl, hO, g1⟩
  obtain ⟨rfl, rfl⟩ := OO.out x' er hO
  clear OO hO hof hblm
  have gN := bal g1 (.cells #[.int .u64 (x' : Nat)] 27)
  have X6 := X6.below gN
  have X11 := Box.new v1 x' 27
  have T7 := T6.below gN
  have IA := IA.below gN (Nat.le_refl _)
  have BB := bjoin BB gN
  obtain ⟨p11, hq⟩ : ∃ p, p = v1.heap.size := ⟨_, rfl⟩
  have HQ : Hid (p11 = v1.heap.size) := hq
  rw [← hq] at X11
  obtain ⟨w7, hw⟩ : ∃ v, v = v1.alloc (.cells #[.int .u64 (x' : Nat)] 27) := ⟨_, rfl⟩
  rw [← hw] at BB X6 X11 T7 IA
  clear hq gN g1 T6
  go_upto_region 14 with fail
  rw [← hw, ← HQ.out]
  clear hw HQ
  have k6 := X6.1
  go_wp2_with fail
  refine (next_c x' (-5) w7 hx (by decide) (by decide) T7).mono ?_
  rw [nx_m5]
  rintro e w8 ⟨rfl, g8⟩
  have J0 : AllRel x' (nx x' 0) [] := AllRel.first x' hx
  generalize nx x' 0 = v0 at *
  have START : Box w8 p6 x' ∧ Box w8 p11 x' ∧ Ints w8 aa ln (fun j => ((al x').getD j 0 : Nat)) ∧ Tz w8 ∧ Below w.heap.size w w8 := ⟨X6.below g8, X11.below g8, IA.below g8 (Nat.le_refl _), T7.below g8, bjoin BB g8⟩
  clear X6 X11 IA T7 BB g8 k6
  go_wp2_with fail
  go_loopw [13, 14] (fun v13 v14 wr => ∃ (done : List Nat) (v : Int), v13 = .int .i64 (done.length : Nat) ∧ v14 = .int .i64 v ∧ AllRel x' v done ∧ Box wr p6 x' ∧ Box wr p11 x' ∧ Ints wr aa ln (fun j => ((al x').getD j 0 : Nat)) ∧ Tz wr ∧ Below w.heap.size w wr) (fun _ v14 _ => if intOf v14 < 0 then 0 else 65 - (intOf v14).toNat)
  case atStart => exact ⟨[], v0, by go_num, rfl, J0, START⟩
  case round =>
    obtain ⟨done, v, rfl, rfl, hr, X6, X11, IA, T7, BB⟩ := hrel
    clear J0 START
    have k6 := X6.1
    rcases hr with ⟨rfl, rfl⟩ | ⟨k, rfl, hk, hb, hd⟩
    · have START2 : Box wr p6 x' ∧ Box wr p11 x' ∧ Tz wr ∧ Below w.heap.size w wr := ⟨X6, X11, T7, BB⟩
      have hlx : ln = (al x').length := HLN.out
      have hcdx : cd x' = ln := by rw [hlx, al_len]
      have HCD : Hid (cd x' = ln) := hcdx
      rw [← hlx]
      clear X6 X11 T7 BB IA k6 hcdx hlx
      unfold maxLen at m0
      go_wp2_with fail
      go_loopw [15] (fun v15 wq => ∃ k : Nat, k ≤ n0 ∧ k ≤ 100 ∧ v15 = .int .i64 (k : Nat) ∧ Box wq p6 x' ∧ Box wq p11 x' ∧ Tz wq ∧ Below w.heap.size w wq) (fun v15 _ => n0 - (intOf v15).toNat)
      case atStart => exact ⟨0, by omega, by omega, by go_num, START2⟩
      case round =>
        obtain ⟨k, hk, hk1, rfl, X6, X11, T7, BB⟩ := hrel
        clear START2
        have k6 := X6.1
        have k11 := X11.1
        by_cases hlt : k < n0 ∧ k < 100
        · as_aux_lemma =>
            obtain ⟨hlt1, hlt2⟩ := hlt
            have g1 : (k : Int) < (n0 : Int) := by omega
            have g2 : (k : Int) < 100 := by omega
            obtain ⟨bb, off, rfl, hbb, hc0, hi1, hi2⟩ := h0 k hlt1
            have hc := (BB.cell (p := ⟨bb, off + k, none⟩) hbb).trans hc0
            have hpk := pk_lt (f0 k) 64 (by omega)
            have hin : x'.testBit (pk (f0 k) 64) = true := (hxb _).2 ⟨k, hlt1, hlt2, rfl⟩
            have hpc : ∀ w, Calls Tryd.prog 14 #[.int .i64 (f0 k), .int .i64 64] w fun e w' => e = .returned (.int .i64 (pk (f0 k) 64 : Nat)) ∧ w' = w := fun w => pick_c (f0 k) 64 w hi1 hi2 (by omega) (by omega)
            have hha : ∀ w, Calls Tryd.prog 19 #[sv x', .int .i64 (pk (f0 k) 64 : Nat)] w fun e w' => e = .returned (.bool true) ∧ Below w.heap.size w w' := fun w => by rw [← hin]; exact has_yes x' _ w hx hpk
            generalize f0 k = fk at hc hi1 hi2 hpk hpc hha hin
            generalize pk fk 64 = m at hpk hpc hha hin
            have hbw : bb < wr.heap.size := Nat.lt_of_lt_of_le hbb BB.size
            have ky : wr.cell? ⟨p6, 0, none⟩ = some (.int .u64 (x' : Nat)) ∧ wr.cell? ⟨bb, off + k, none⟩ = some (.int .i64 fk) := ⟨k6, hc⟩
            have kz : wr.drew.cell? ⟨p6, 0, none⟩ = some (.int .u64 (x' : Nat)) ∧ wr.drew.cell? ⟨bb, off + k, none⟩ = some (.int .i64 fk) := ky
            clear hc0 hin
            go_wp2_with fail
            go_region_held (fun wx => wx.cell? ⟨p6, 0, none⟩ = some (.int .u64 (x' : Nat)) ∧ wx.cell? ⟨bb, off + k, none⟩ = some (.int .i64 fk)) (first | (with_reducible exact ky) | (with_reducible exact kz)) (first | (go_at_call 14; refine (hpc _).mono ?_; rintro e wn ⟨rfl, rfl⟩) | (go_at_call 19; refine (hha _).mono ?_; rintro e wn ⟨rfl, g9⟩; have kz := And.intro ((g9.cell (p := ⟨p6, 0, none⟩) X6.2).trans k6) ((g9.cell (p := ⟨bb, off + k, none⟩) hbw).trans hc)))
            have g10 := bjoin (b0 wr).drew g9
            have RR : Box wn p6 x' ∧ Box wn p11 x' ∧ Tz wn ∧ Below w.heap.size w wn := ⟨X6.below g10, X11.below g10, T7.below g10, bjoin BB g10⟩
            clear X6 X11 T7 BB g9 g10 ky kz hpc hha k6 k11 hc
            go_wp2
            go_roundw
            case rel => (try ((repeat apply Exists.intro); refine ⟨?_, rfl⟩)); exact ⟨k + 1, by omega, by omega, by go_num, RR⟩
            case measure => simp [intOf]; omega
        · have hle := len_c x'
          rw [HCD.out] at hle
          have hne := next_c x' 64
          rw [nx_64 x' hx] at hne
          have h64 := has_no x' 64
          have hm1 := has_no x' (-1)
          clear HCD hxb h0
          by_cases hlt1 : k < n0
          · as_aux_lemma =>
              have g1 : (k : Int) < (n0 : Int) := by omega
              have g2 : ¬ (k : Int) < 100 := by omega
              clear hlt
              go_wp2_with fail
              refine (hle _ hx).mono ?_
              rintro e v2 ⟨rfl, q2⟩
              have X6 := X6.below q2
              have k6 := X6.1
              have T7 := T7.below q2
              go_wp2_with fail
              refine (hne _ hx (by decide) (by decide) T7).mono ?_
              rintro e v3 ⟨rfl, q3⟩
              have X6 := X6.below q3
              have k6 := X6.1
              go_wp2_with fail
              refine (h64 _ hx (by decide)).mono ?_
              rintro e v4 ⟨rfl, q4⟩
              have X6 := X6.below q4
              have k6 := X6.1
              go_wp2_with fail
              refine (hm1 _ hx (by decide)).mono ?_
              rintro e v5 ⟨rfl, q5⟩
              have RR := bjoin (bjoin (bjoin (bjoin BB q2) q3) q4) q5
              clear X6 X11 T7 BB q2 q3 q4 q5
              go_wp2
              go_ret
              exact ⟨rfl, RR⟩
          · as_aux_lemma =>
              have g1 : ¬ (k : Int) < (n0 : Int) := by omega
              clear hlt
              go_wp2_with fail
              refine (hle _ hx).mono ?_
              rintro e v2 ⟨rfl, q2⟩
              have X6 := X6.below q2
              have k6 := X6.1
              have T7 := T7.below q2
              go_wp2_with fail
              refine (hne _ hx (by decide) (by decide) T7).mono ?_
              rintro e v3 ⟨rfl, q3⟩
              have X6 := X6.below q3
              have k6 := X6.1
              go_wp2_with fail
              refine (h64 _ hx (by decide)).mono ?_
              rintro e v4 ⟨rfl, q4⟩
              have X6 := X6.below q4
              have k6 := X6.1
              go_wp2_with fail
              refine (hm1 _ hx (by decide)).mono ?_
              rintro e v5 ⟨rfl, q5⟩
              have RR := bjoin (bjoin (bjoin (bjoin BB q2) q3) q4) q5
              clear X6 X11 T7 BB q2 q3 q4 q5
              go_wp2
              go_ret
              exact ⟨rfl, RR⟩
    · as_aux_lemma =>
        obtain ⟨e1, e2⟩ := AllRel.at9 hd hk hb
        have hdl : done.length < ln := by rw [HLN.out]; exact e2
        have hdI : (done.length : Int) < (ln : Int) := by omega
        obtain ⟨bb, off, rfl, hbb, hc0, hi1, hi2⟩ := IA _ hdl
        have hc : wr.cell? ⟨bb, off + done.length, none⟩ = some (.int .i64 (((al x').getD done.length 0 : Nat) : Int)) := hc0
        rw [e1] at hc
        have RL := AllRel.next x' k done hx hk hb hd
        have hms : nx x' ((k : Int) + 1) < 0 ∨ (k : Int) < nx x' ((k : Int) + 1) := by
          rcases nx_spec x' ((k : Int) + 1) hx with ⟨q1, _⟩ | ⟨m, q1, _, q3, _⟩ <;> omega
        have hnx := next_c x' ((k : Int) + 1)
        have HDL : Hid ((done ++ [k]).length = done.length + 1) := by show _ = _; simp
        generalize nx x' ((k : Int) + 1) = v' at *
        clear e1 e2 hd hi1 hi2 hc0
        go_wp2_with fail
        refine (hnx _ hx (by omega) (by omega) T7).mono ?_
        rintro e w9 ⟨rfl, g9⟩
        have RR : Box w9 p6 x' ∧ Box w9 p11 x' ∧ Ints w9 (some ⟨bb, off, none⟩) ln (fun j => ((al x').getD j 0 : Nat)) ∧ Tz w9 ∧ Below w.heap.size w w9 := ⟨X6.below g9, X11.below g9, IA.below g9 (Nat.le_refl _), T7.below g9, bjoin BB g9⟩
        clear X6 X11 IA T7 BB g9 k6 hc hnx
        go_wp2
        go_roundw
        case rel => (try ((repeat apply Exists.intro); refine ⟨?_, rfl⟩)); exact ⟨done ++ [k], v', by rw [HDL.out]; go_num, rfl, RL, RR⟩
        case measure =>
          show (if v' < 0 then 0 else 65 - v'.toNat) < (if (k : Int) < 0 then 0 else 65 - ((k : Int)).toNat)
          split <;> split <;> omega
end Go.Proofs.YtabkbldhiigcgaaDoor
