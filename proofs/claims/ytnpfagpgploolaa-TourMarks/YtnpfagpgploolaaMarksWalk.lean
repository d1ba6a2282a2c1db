/- The walk of the law TourMarks. -/
import Derived.Test.YtnpfagpgploolaaMarksM
import Derived.Test.YtnpfagpgploolaaJoinA
import Derived.Test.YtnpfagpgploolaaWoutW
import Derived.Test.YtnpfagpgploolaaOpsArg
import Derived.Deep.LoopGhost
import Derived.Deep.CutBlock
import Derived.Deep.DeepCutAuto
namespace Go.Proofs.Ytnpfagpgploolaa
open Go.ChangeShapes Go.WideShapes Go.ChangeAt Go.RowKit Go.Maps
set_option linter.unusedVariables false

/-- Where an edge stands. -/
def PlaceIs (l : List (Nat × Nat)) (u v : Nat) (r : Int) : Prop := (r = -1 ∧ ∀ s ∈ l, s ≠ (u, v) ∧ s ≠ (v, u)) ∨ ∃ k, ∃ (hk : k < l.length), r = (k : Int) ∧ (l[k] = (u, v) ∨ l[k] = (v, u))
theorem PlaceIs.neg {l : List (Nat × Nat)} {u v : Nat} {r : Int} (h : PlaceIs l u v r) (hr : r < 0) : ∀ s ∈ l, s ≠ (u, v) ∧ s ≠ (v, u) := by
  rcases h with h | ⟨k, hk, rfl, _⟩
  · exact h.2
  · omega
theorem PlaceIs.pos {l : List (Nat × Nat)} {u v : Nat} {r : Int} (h : PlaceIs l u v r) (hr : 0 ≤ r) : (u, v) ∈ l ∨ (v, u) ∈ l := by
  rcases h with ⟨rfl, _⟩ | ⟨k, hk, rfl, he⟩
  · omega
  · rcases he with e | e
    · exact .inl (e ▸ List.getElem_mem hk)
    · exact .inr (e ▸ List.getElem_mem hk)
theorem Told.alike {n : Nat} {Y : Nat → List (Nat × Nat)} {l l' : List (Nat × Nat)} (h : Told n Y l) (hm : ∀ s, s ∈ l' ↔ s ∈ l) : Told n Y l' := ⟨fun s hs => h.lt s ((hm s).1 hs), fun u v hu hv huv => by rw [h.has u v hu hv huv, hm, hm]⟩
theorem place_is (w : World) (o : Nat → Nat) (la u v : Nat) (vl : Value) (l : List (Nat × Nat)) (hv : RowP w o la vl l) (hl : l.length ≤ 1000) :
    Calls Try.prog 15 #[vl, .int .i64 u, .int .i64 v] w fun e w' => ∃ r : Int, e = .returned (.int .i64 r) ∧ Step (fun _ => False) w o w' o ∧ PlaceIs l u v r := by
  refine (place_l w o la u v vl l hv.vw hl).mono ?_
  rintro e w' ⟨r, rfl, ⟨m, rfl⟩, h⟩
  exact ⟨r, rfl, (Step.refl _ _ _).drewN m, h⟩
theorem without_any (w : World) (o : Nat → Nat) (la lb u v : Nat) (r : Int) (vl : Value) (l : List (Nat × Nat)) (hv : RowP w o la vl l) (hne : la ≠ lb) (hl : l.length ≤ 1000) (hon : Once l) (hp : PlaceIs l u v r) :
    Calls Try.prog 22 #[vl, .int .i64 r] w fun e w' => ∃ v' o' l' lc, e = .returned v' ∧ RowP w' o' lc v' l' ∧ Out l l' u v ∧ (lc = la ∨ lc = lb) ∧ Step (fun j => j = lb) w o w' o' := by
  rcases hp with ⟨rfl, hno⟩ | ⟨k, hk, rfl, he⟩
  · refine (without_no w vl l).mono ?_
    rintro e w' ⟨rfl, rfl⟩
    exact ⟨vl, o, l, la, rfl, hv, Out.none hon hno, .inl rfl, Step.refl _ _ _⟩
  · refine (without_l w o la lb k vl l hv hne hk hl).mono ?_
    rintro e w' ⟨v', o', rfl, r, s⟩
    exact ⟨v', o', _, lb, rfl, r, Out.at hon hk he, .inr rfl, s⟩
theorem tdiv_bd {x : Int} (h1 : -9223372036854775808 ≤ x) (h2 : x ≤ 9223372036854775807) : -9223372036854775808 ≤ x.tdiv 2 ∧ x.tdiv 2 ≤ 9223372036854775807 := by
  rcases Int.le_total 0 x with h | h
  · rw [Int.tdiv_eq_ediv_of_nonneg h]; omega
  · have : x.tdiv 2 = -((-x) / 2) := by rw [← Int.tdiv_eq_ediv_of_nonneg (show (0 : Int) ≤ -x by omega), Int.neg_tdiv, Int.neg_neg]
    rw [this]; omega
theorem Blk.cells6 {w : World} {o : Nat → Nat} {i b : Nat} {a0 a1 a2 a3 a4 a5 : Value} {t : TypeId} (h : Blk w o i b (.cells #[a0, a1, a2, a3, a4, a5] t (0, 0))) :
    w.cell? ⟨b, 0, none⟩ = some a0 ∧ w.cell? ⟨b, 1, none⟩ = some a1 ∧ w.cell? ⟨b, 2, none⟩ = some a2 ∧ w.cell? ⟨b, 3, none⟩ = some a3 ∧ w.cell? ⟨b, 4, none⟩ = some a4 ∧ w.cell? ⟨b, 5, none⟩ = some a5 := by
  refine ⟨?_, ?_, ?_, ?_, ?_, ?_⟩ <;> simp [cell_of_row w b _ _ t (0, 0) h.1]
theorem pair_cells {w : World} {o : Nat → Nat} {i b : Nat} {u v : Nat} {t : TypeId} (h : Blk w o i b (.cells #[.int .i64 u, .int .i64 v] t (0, 0))) : ∀ j x, (pairsL [(u, v)])[j]? = some x → w.cell? ((⟨b, 0, none⟩ : Addr).add j) = some x := fun j x hj => by
  obtain ⟨x0, x1, xf⟩ := h.cells2f
  match j with
  | 0 => simp [pairsL] at hj; rw [← hj]; exact x0
  | 1 => simp [pairsL] at hj; rw [← hj]; exact x1
  | j + 2 => simp [pairsL] at hj
/-- The state of the loop. -/
def MkS (w : World) (p n j : Nat) (vl vo : Value) (wr : World) : Prop :=
  ∃ o' Y val mk l on la lo, Tt wr o' 1 p n Y (Dm val mk) ∧ Books n Y mk l on j ∧ RowP wr o' la vl l ∧ RowP wr o' lo vo on ∧ (la = 5001 ∨ la = 5003) ∧ (lo = 5002 ∨ lo = 5004) ∧ Step Pos w o0 wr o'

/-- The state of the last loop. -/
def MkE (w : World) (p n : Nat) (Y : Nat → List (Nat × Nat)) (val : Nat → Int) (mk : Nat × Nat → Bool) (l on : List (Nat × Nat)) (la lo : Nat) (vl vo : Value) (wr : World) : Prop :=
  ∃ o', Tt wr o' 1 p n Y (Dm val mk) ∧ RowP wr o' la vl l ∧ RowP wr o' lo vo on ∧ Step Pos w o0 wr o'

set_option maxRecDepth 100000 in
set_option maxHeartbeats 40000000 in
theorem marks_walk (w : World) (cn : Int) (a1 : Option Addr) (len1 cap1 : Nat) (f : Nat → OpT) (ha1 : ArgOps w o0 a1 len1 f) (h1 : len1 ≤ 9223372036854775807) (hcn : i64 cn) :
    Calls Try.prog 5 #[.int .i64 cn, .slice a1 len1 cap1] w fun e w' => e = .returned (.bool true) ∧ Below w.heap.size w w' := by
  have npos : ¬ Pos 0 := by unfold Pos; omega
  obtain ⟨ii, hii, hzi0, hzi1, hzi2⟩ := info_parts infoPair
  go_enter Try.func5, Try.ntmps5
  go_wp2_with fail
  refine (awake_any w).mono ?_
  rintro e w1 ⟨rfl, hb1⟩
  have t1 : Step Pos w o0 w1 o0 := Step.ofBelow o0 hb1
  have hpn := pick_any cn 30 w1 hcn.1 hcn.2 (by omega) (by omega)
  go_wp2_with fail
  refine hpn.mono ?_
  rintro e w1' ⟨n0, hn0, rfl, hw1⟩
  obtain rfl : w1 = w1' := hw1.symm
  clear hpn hb1
  obtain ⟨n, hn⟩ : ∃ n, n = 2 + n0 := ⟨_, rfl⟩
  have hnt := new_t w1 o0 1 n (by omega) (by omega)
  have hn1 : 2 ≤ n := by omega
  have hn2 : n ≤ 31 := by omega
  have en : Hid ((2 + (n0 : Int)) = (n : Int)) := by show _ = _; omega
  clear hn
  go_wp2_with fail
  rw [en.out]
  clear en hn0
  refine hnt.mono ?_
  rintro e w2 ⟨p, rfl, o2, T2, s2⟩
  rw [Dm_new] at T2
  have START : MkS w p n 0 (.slice none 0 0) (.slice none 0 0) w2 := ⟨o2, _, _, _, [], [], 5001, 5002, T2, Books.new n, Row.nil _ _ _ _ _, Row.nil _ _ _ _ _, .inl rfl, .inl rfl, t1.trans (s2.posT (by omega))⟩
  clear hnt T2 s2 t1
  go_upto_block 0 with fail
  go_cut [8, 9] (fun vl vo wx => ∃ j : Nat, j ≤ 120 ∧ MkS w p n j vl vo wx)
  case first =>
    go_wp2_with fail
    go_loopg [8, 9, 10] 121 (fun gh vl vo i wr => ∃ j : Nat, i = .int .i64 (j : Nat) ∧ j ≤ len1 ∧ j ≤ 120 ∧ gh = 121 - j ∧ MkS w p n j vl vo wr)
    case atStart => exact ⟨0, by go_num, by omega, by omega, by omega, START⟩
    case round =>
      clear START
      obtain ⟨j, rfl, hj, hj2, rfl, o3, Y, val, mk, l, on, la, lo, T3, B3, R3, Q3, hla, hlo, t3⟩ := hrel
      by_cases hlt : j < len1 ∧ j < 120
      · obtain ⟨hlt, hlt2⟩ := hlt
        obtain ⟨b, off, rfl, hbl, hob, ⟨c0, c1, c2, c3, c4, c5⟩, ⟨ik1, ik2⟩, ⟨iu1, iu2⟩, ⟨iv1, iv2⟩, ⟨ix1, ix2⟩⟩ := ha1.step t3 npos j hlt
        generalize f j = q at c0 c1 c2 c3 c4 c5 ik1 ik2 iu1 iu2 iv1 iv2 ix1 ix2
        obtain ⟨kd, cu, cv, cx, bo, bt⟩ := q
        simp only at c0 c1 c2 c3 c4 c5 ik1 ik2 iu1 iu2 iv1 iv2 ix1 ix2
        have hjl : (j : Int) < (len1 : Int) := by omega
        obtain ⟨ms, E3⟩ := T3.eu
        have hlen := B3.len
        have hlen2 := B3.len2
        have HL : Hid (l.length ≤ 1000 ∧ on.length ≤ 1000) := ⟨by omega, by omega⟩
        obtain ⟨ao, cap, rfl⟩ := R3.form
        obtain ⟨ap, cap2, rfl⟩ := Q3.form
        have n1 := newStep (fun _ => False) wr o3 5010 (.cells #[.int .i64 kd, .int .i64 cu, .int .i64 cv, .int .i64 cx, .bool bo, .bool bt] 36)
        have B1 : Blk (wr.alloc (.cells #[.int .i64 kd, .int .i64 cu, .int .i64 cv, .int .i64 cx, .bool bo, .bool bt] 36)) (newLab wr o3 5010) 5010 wr.heap.size (.cells #[.int .i64 kd, .int .i64 cu, .int .i64 cv, .int .i64 cx, .bool bo, .bool bt] 36 (0, 0)) := ⟨heap_alloc_new wr _, newLab_new (Nat.le_refl _)⟩
        have T4 := T3.quiet n1
        have R4 : RowP _ _ la _ l := Row.step R3 n1 id
        have Q4 : RowP _ _ lo _ on := Row.step Q3 n1 id
        have t4 := t3.trans n1.pos0
        clear T3 R3 Q3 t3 n1
        go_wp2_with fail
        obtain ⟨w4, hw4⟩ : ∃ w4, w4 = wr.alloc (.cells #[.int .i64 kd, .int .i64 cu, .int .i64 cv, .int .i64 cx, .bool bo, .bool bt] 36) := ⟨_, rfl⟩
        obtain ⟨o4, ho4⟩ : ∃ o4, o4 = newLab wr o3 5010 := ⟨_, rfl⟩
        rw [← hw4]
        rw [← hw4, ← ho4] at T4 R4 Q4 t4 B1
        clear hw4 ho4 c0 c1 c2 c3 c4 c5
        generalize wr.heap.size = po at *
        obtain ⟨c0, c1, c2, c3, c4, c5⟩ := B1.cells6
        have hpu := pick_any cu n w4 iu1 iu2 (by omega) (by omega)
        have hpv := pick_any cv n w4 iv1 iv2 (by omega) (by omega)
        have hpx := pick_any cx 2 w4 ix1 ix2 (by omega) (by omega)
        refine hpu.mono ?_
        rintro e w5 ⟨u, hu, rfl, hw5⟩
        obtain rfl : w4 = w5 := hw5.symm
        clear hpu
        go_wp2_with fail
        refine hpv.mono ?_
        rintro e w5 ⟨v, hv, rfl, hw5⟩
        obtain rfl : w4 = w5 := hw5.symm
        clear hpv
        go_upto_region 14 with fail
        go_cut [74] (fun c wx => ∃ bq : Bool, c = .bool bq ∧ (bq = true → 0 < l.length) ∧ wx = w4)
        case first =>
          by_cases hl0 : 0 < l.length
          · go_wp2_with fail
            refine hpx.mono ?_
            rintro e w6 ⟨r, hr, rfl, hw6⟩
            obtain rfl : w4 = w6 := hw6.symm
            clear hpx
            by_cases hr0 : r = 0
            · subst hr0
              go_wp2
              go_meet
              exact ⟨false, rfl, (fun h => by cases h), rfl⟩
            · obtain rfl : r = 1 := by omega
              go_wp2
              go_meet
              exact ⟨true, rfl, fun _ => hl0, rfl⟩
          · clear hpx
            go_wp2
            go_meet
            exact ⟨false, rfl, (fun h => by cases h), rfl⟩
        case rest =>
        obtain ⟨bq, rfl, hbq, rfl⟩ := hcut
        clear hpx
        go_upto_if 74 with fail
        go_cut [12, 13] (fun su sv wx => ∃ (u v : Nat), su = .int .i64 u ∧ sv = .int .i64 v ∧ u < n ∧ v < n ∧ ∃ o4, Tt wx o4 1 p n Y (Dm val mk) ∧ RowP wx o4 la (.slice ao l.length cap) l ∧ RowP wx o4 lo (.slice ap on.length cap2) on ∧ Step Pos w o0 wx o4 ∧ Blk wx o4 5010 po (.cells #[.int .i64 kd, .int .i64 cu, .int .i64 cv, .int .i64 cx, .bool bo, .bool bt] 36 (0, 0)))
        case first =>
          cases bq
          · go_wp2
            go_meet
            exact ⟨u, v, rfl, rfl, hu, hv, _, T4, R4, Q4, t4, B1⟩
          · have hl0 := hbq rfl
            have hpy := pick_any (cx.tdiv 2) l.length wc (tdiv_bd ix1 ix2).1 (tdiv_bd ix1 ix2).2 (by omega) (by omega)
            go_wp2_with fail
            refine hpy.mono ?_
            rintro e w7 ⟨r2, hr2, rfl, hw7⟩
            obtain rfl : wc = w7 := hw7.symm
            clear hpy
            obtain ⟨g, cap', hvv, q1, q2, q3, q4, q5, q6⟩ := R4.pos hl0
            simp only [Value.slice.injEq, true_and] at hvv
            obtain ⟨rfl, rfl⟩ := hvv
            obtain ⟨x1, x2⟩ := pairsL_get l r2 hr2
            have y1 := (q5 _ (by omega)).trans x1
            have y2 := (q5 _ (by omega)).trans x2
            have hm := List.getElem_mem hr2
            obtain ⟨lt1, lt2, lt3⟩ := B3.told.lt _ hm
            have hr3 : (r2 : Int) < (l.length : Int) := by omega
            obtain ⟨u, hu⟩ : ∃ u, u = l[r2].1 := ⟨_, rfl⟩
            obtain ⟨v, hv⟩ : ∃ v, v = l[r2].2 := ⟨_, rfl⟩
            rw [← hu] at y1 lt1
            rw [← hv] at y2 lt2
            clear x1 x2 hm hu hv lt3 q5 q6
            have n2 := newStep (fun _ => False) wc o4 5011 (.cells #[.int .i64 u, .int .i64 v] 49)
            have T5 := T4.quiet n2
            have R5 : RowP _ _ la _ l := Row.step R4 n2 id
            have Q5 : RowP _ _ lo _ on := Row.step Q4 n2 id
            have t5 := t4.trans n2.pos0
            have B5 := B1.step n2 id
            clear n2 T4 R4 Q4 t4 B1
            go_wp2
            go_meet
            exact ⟨u, v, rfl, rfl, lt1, lt2, _, T5, R5, Q5, t5, B5⟩
        case rest =>
          obtain ⟨u, v, rfl, rfl, hu, hv, o4, T4, R4, Q4, t4, B1⟩ := hcut
          go_wp2_with fail
          have hp1 := place_is _ _ la u v _ l R4 HL.out.1
          refine hp1.mono ?_
          rintro e w5 ⟨k, rfl, s5, hk⟩
          have HK : Hid (PlaceIs l u v k) := hk
          have T5 := T4.quiet s5
          have R5 : RowP _ _ la _ l := Row.step R4 s5 id
          have Q5 : RowP _ _ lo _ on := Row.step Q4 s5 id
          have t5 := t4.trans s5.pos0
          have B5 := B1.step s5 id
          clear hp1 s5 hk T4 R4 Q4 t4 B1
          have hp2 := place_is _ _ lo u v _ on Q5 HL.out.2
          go_wp2_with fail
          refine hp2.mono ?_
          rintro e w6 ⟨m, rfl, s6, hm⟩
          have HM : Hid (PlaceIs on u v m) := hm
          have T6 := T5.quiet s6
          have R6 : RowP _ _ la _ l := Row.step R5 s6 id
          have Q6 : RowP _ _ lo _ on := Row.step Q5 s6 id
          have t6 := t5.trans s6.pos0
          have B6 := B5.step s6 id
          clear hp2 s6 hm T5 R5 Q5 t5 B5
          obtain ⟨d0, d1, d2, d3, d4, d5⟩ := B6.cells6
          have hpk := pick_any kd 3 w6 ik1 ik2 (by omega) (by omega)
          go_wp2_with fail
          refine hpk.mono ?_
          rintro e w7 ⟨r3, hr3, rfl, hw7⟩
          obtain rfl : w6 = w7 := hw7.symm
          clear hpk
          by_cases hA : r3 = 0 ∧ k < 0
          · as_aux_lemma =>
              obtain ⟨rfl, hk0⟩ := hA
              clear hr3
              by_cases he : Y u = Y v
              · have hlk := link_same_t _ _ 1 p n Y _ u v T6 hu hv he
                go_wp2_with fail
                refine hlk.mono ?_
                rintro e w8 ⟨rfl, o8, T8, s8⟩
                have R : MkS w p n (j + 1) _ _ w8 := ⟨o8, Y, val, mk, l, on, la, lo, T8, B3.more, Row.step R6 s8 (TL.no (by omega)), Row.step Q6 s8 (TL.no (by omega)), hla, hlo, t6.trans (s8.posT (by omega))⟩
                clear hlk T8 s8 R6 Q6 t6 T6 B6 d0 d1 d2 d3 d4 d5
                go_wp2
                go_roundg (121 - (j + 1))
                case measure => omega
                case rel => exact ⟨j + 1, by go_num, by omega, by omega, rfl, R⟩
              · have hlk := link_t _ _ 1 p n Y _ u v T6 hu hv he
                rw [Dm_link _ _ _ _ (fun x => he (by rw [x]))] at hlk
                go_wp2_with fail
                refine hlk.mono ?_
                rintro e w8 ⟨rfl, o8, T8, s8⟩
                have BB := B3.link E3 hu hv he
                have R8 : RowP _ _ la _ l := Row.step R6 s8 (TL.no (by omega))
                have Q8 : RowP _ _ lo _ on := Row.step Q6 s8 (TL.no (by omega))
                have t8 := t6.trans (s8.posT (by omega))
                have n9 := newStep (fun _ => False) w8 o8 5012 (.cells #[.int .i64 u, .int .i64 v] 49)
                have B9 : Blk (w8.alloc (.cells #[.int .i64 u, .int .i64 v] 49)) (newLab w8 o8 5012) 5012 w8.heap.size (.cells #[.int .i64 u, .int .i64 v] 49 (0, 0)) := ⟨heap_alloc_new w8 _, newLab_new (Nat.le_refl _)⟩
                have T9 := T8.quiet n9
                have R9 : RowP _ _ la _ l := Row.step R8 n9 id
                have Q9 : RowP _ _ lo _ on := Row.step Q8 n9 id
                have t9 := t8.trans n9.pos0
                have hc9 := pair_cells B9
                have hl9 : (pairsL [(u, v)]).length = 1 * 2 := rfl
                have b9 : l.length + 1 ≤ maxLen := by unfold maxLen; omega
                have b10 : (l.length + 1) * 16 ≤ 140737488355328 := by omega
                clear hlk s8 R6 Q6 t6 T6 B6 d0 d1 d2 d3 d4 d5 T8 R8 Q8 t8 n9 B9
                go_wp2_with (first | (at_builtin; refine wpList_append_lab rfl (.tmp 135) (.tmp 139) 43 rfl 49 ii (.agg #[.int .i64 0, .int .i64 0]) 2 16 Try.underlying43 hii hzi0 hzi1 hzi2 rfl (by decide) (newLab w8 o8 5012) la _ l.length (pairsL l) rfl R9 ⟨w8.heap.size, 0, none⟩ 1 1 (pairsL [(u, v)]) rfl hl9 hc9 (pairsL_one _) (by decide) b9 b10 ?_) | go_in)
                intro g10 c10 w10 o10 r10 s10
                have R : MkS w p n (j + 1) (.slice (some ⟨g10, 0, none⟩) (l.length + 1) c10) _ w10 := ⟨o10, _, val, _, l ++ [(u, v)], on, la, lo, T9.step s10 (fun k hk e => TL.no (by omega) hk), BB, by show Row _ _ _ _ _ _ _ _; rw [pairsL_append, List.length_append]; exact r10, Row.step Q9 s10 (by omega), hla, hlo, t9.trans (s10.mono (J := Pos) fun k hk => by unfold Pos; omega)⟩
                clear r10 s10 T9 R9 Q9 t9 hc9 BB
                go_wp2
                go_roundg (121 - (j + 1))
                case measure => omega
                case rel => exact ⟨j + 1, by go_num, by omega, by omega, rfl, R⟩
          · have hpk := pick_any kd 3 w6 ik1 ik2 (by omega) (by omega)
            by_cases hr0 : r3 = 0
            · have hk0 : 0 ≤ k := by omega
              subst hr0
              clear hA hr3
              go_wp2_with fail
              as_aux_lemma =>
                refine hpk.mono ?_
                rintro e w7 ⟨r4, hr4, rfl, hw7⟩
                obtain rfl : w6 = w7 := hw7.symm
                clear hpk
                have hin := HK.out.pos hk0
                obtain ⟨huv, hY⟩ := (B3.has hu hv).2 hin
                obtain ⟨lb, hlb, hlb2⟩ : ∃ lb, (lb = 5001 ∨ lb = 5003) ∧ la ≠ lb := by rcases hla with rfl | rfl; exact ⟨5003, .inr rfl, by omega⟩; exact ⟨5001, .inl rfl, by omega⟩
                obtain ⟨lq, hlq, hlq2⟩ : ∃ lq, (lq = 5002 ∨ lq = 5004) ∧ lo ≠ lq := by rcases hlo with rfl | rfl; exact ⟨5004, .inr rfl, by omega⟩; exact ⟨5002, .inl rfl, by omega⟩
                by_cases h41 : r4 = 1
                · subst h41
                  obtain ⟨x, y, A, M, B, hw, hs⟩ := E3.both hu huv hY
                  have hct := cut_t _ _ 1 p n Y _ u v x y A M B T6 hu hv huv hw hs
                  go_wp2_with fail
                  refine hct.mono ?_
                  rintro e w8 ⟨rfl, o8, T8, s8⟩
                  have R8 : RowP _ _ la _ l := Row.step R6 s8 (TL.no (by omega))
                  have Q8 : RowP _ _ lo _ on := Row.step Q6 s8 (TL.no (by omega))
                  have t8 := t6.trans (s8.posT (by omega))
                  have hwo := without_any w8 o8 la lb u v k _ l R8 hlb2 HL.out.1 B3.once HK.out
                  clear hct s8 R6 Q6 t6 T6 B6 d0 d1 d2 d3 d4 d5
                  as_aux_lemma =>
                    go_wp2_with fail
                    refine hwo.mono ?_
                    rintro e w9 ⟨v9, o9, l', lc, rfl, R9, OL, hlc, s9⟩
                    have T9 := T8.step s9 (fun k hk e => TL.no (by omega) hk)
                    have Q9 : RowP _ _ lo _ on := Row.step Q8 s9 (by omega)
                    have t9 := t8.trans (s9.mono (J := Pos) fun k hk => by unfold Pos; omega)
                    have hwo := without_any w9 o9 lo lq u v m _ on Q9 hlq2 HL.out.2 B3.once2 HM.out
                    clear s9 R8 Q8 t8 T8
                    go_wp2_with fail
                    refine hwo.mono ?_
                    rintro e w10 ⟨v10, o10, on', ld, rfl, Q10, OO, hld, s10⟩
                    have R : MkS w p n (j + 1) v9 v10 w10 := ⟨o10, _, val, mk, l', on', lc, ld, T9.step s10 (fun k hk e => TL.no (by omega) hk), (B3.cut E3 hu hv huv hw hs OL OO).more, Row.step R9 s10 (by omega), Q10, by omega, by omega, t9.trans (s10.mono (J := Pos) fun k hk => by unfold Pos; omega)⟩
                    clear hwo s10 T9 R9 Q9 Q10 t9 OL OO
                    go_wp2
                    go_roundg (121 - (j + 1))
                    case measure => omega
                    case rel => exact ⟨j + 1, by go_num, by omega, by omega, rfl, R⟩
                · have hr5 : ((r4 : Int) == 1) = false := by simp only [beq_eq_false_iff_ne, ne_eq]; omega
                  have hY2 : (v, u) ∈ Y v := by
                    have q := E3.back u hu _ hY
                    rw [(E3.one u hu _ hY).2.2.2]; exact q
                  have hct := markEdge_t _ _ 1 p n Y val mk v u bo T6 hv hu huv.symm hY2
                  go_wp2_with fail
                  refine hct.mono ?_
                  rintro e w8 ⟨rfl, o8, T8, s8⟩
                  have R8 : RowP _ _ la _ l := Row.step R6 s8 (TL.no (by omega))
                  have Q8 : RowP _ _ lo _ on := Row.step Q6 s8 (TL.no (by omega))
                  have t8 := t6.trans (s8.posT (by omega))
                  have B8 := B6.step s8 (TL.no (by omega))
                  have hwo := without_any w8 o8 lo lq u v m _ on Q8 hlq2 HL.out.2 B3.once2 HM.out
                  clear hct s8 R6 Q6 t6 T6 B6 d0 d1 d2 d3 d4 d5
                  as_aux_lemma =>
                    go_wp2_with fail
                    refine hwo.mono ?_
                    rintro e w9 ⟨v9, o9, on', ld, rfl, Q9, OO, hld, s9⟩
                    have T9 := T8.step s9 (fun k hk e => TL.no (by omega) hk)
                    have R9 : RowP _ _ la _ l := Row.step R8 s9 (by omega)
                    have t9 := t8.trans (s9.mono (J := Pos) fun k hk => by unfold Pos; omega)
                    have BB := B3.mark1 OO hin huv bo
                    obtain ⟨d0, d1, d2, d3, d4, d5⟩ := (B8.step s9 (by omega)).cells6
                    clear s9 R8 Q8 t8 T8 hwo B8
                    cases bo
                    · have R : MkS w p n (j + 1) _ v9 w9 := ⟨o9, _, val, _, l, on', la, ld, T9, BB, R9, Q9, hla, by omega, t9⟩
                      clear T9 R9 Q9 t9 OO BB
                      go_wp2
                      go_roundg (121 - (j + 1))
                      case measure => omega
                      case rel => exact ⟨j + 1, by go_num, by omega, by omega, rfl, R⟩
                    · have hon' : on'.length ≤ 1000 := Nat.le_trans OO.len HL.out.2
                      obtain ⟨ao', cap', rfl⟩ := Q9.form
                      have n9 := newStep (fun _ => False) w9 o9 5012 (.cells #[.int .i64 u, .int .i64 v] 49)
                      have B9 : Blk (w9.alloc (.cells #[.int .i64 u, .int .i64 v] 49)) (newLab w9 o9 5012) 5012 w9.heap.size (.cells #[.int .i64 u, .int .i64 v] 49 (0, 0)) := ⟨heap_alloc_new w9 _, newLab_new (Nat.le_refl _)⟩
                      have T10 := T9.quiet n9
                      have R10 : RowP _ _ la _ l := Row.step R9 n9 id
                      have Q10 : RowP _ _ ld _ on' := Row.step Q9 n9 id
                      have t10 := t9.trans n9.pos0
                      have hc9 := pair_cells B9
                      have hl9 : (pairsL [(u, v)]).length = 1 * 2 := rfl
                      have b9 : on'.length + 1 ≤ maxLen := by unfold maxLen; omega
                      have b10 : (on'.length + 1) * 16 ≤ 140737488355328 := by omega
                      clear R9 Q9 t9 T9 n9 B9 OO
                      go_wp2_with (first | (at_builtin; refine wpList_append_lab rfl _ _ 43 rfl 49 ii (.agg #[.int .i64 0, .int .i64 0]) 2 16 Try.underlying43 hii hzi0 hzi1 hzi2 rfl (by decide) (newLab w9 o9 5012) ld _ on'.length (pairsL on') rfl Q10 ⟨w9.heap.size, 0, none⟩ 1 1 (pairsL [(u, v)]) rfl hl9 hc9 (pairsL_one _) (by decide) b9 b10 ?_) | go_in)
                      intro g11 c11 w11 o11 r11 s11
                      have R : MkS w p n (j + 1) _ (.slice (some ⟨g11, 0, none⟩) (on'.length + 1) c11) w11 := ⟨o11, _, val, _, l, on' ++ [(u, v)], la, ld, T10.step s11 (fun k hk e => TL.no (by omega) hk), BB, Row.step R10 s11 (by omega), by show Row _ _ _ _ _ _ _ _; rw [pairsL_append, List.length_append]; exact r11, hla, by omega, t10.trans (s11.mono (J := Pos) fun k hk => by unfold Pos; omega)⟩
                      clear r11 s11 T10 R10 Q10 t10 hc9 BB
                      go_wp2
                      go_roundg (121 - (j + 1))
                      case measure => omega
                      case rel => exact ⟨j + 1, by go_num, by omega, by omega, rfl, R⟩
            · have hr1 : ((r3 : Int) == 0) = false := by simp only [beq_eq_false_iff_ne, ne_eq]; omega
              by_cases hk0 : 0 ≤ k
              · clear hA hr3
                go_wp2_with fail
                as_aux_lemma =>
                  refine hpk.mono ?_
                  rintro e w7 ⟨r4, hr4, rfl, hw7⟩
                  obtain rfl : w6 = w7 := hw7.symm
                  clear hpk
                  have hin := HK.out.pos hk0
                  obtain ⟨huv, hY⟩ := (B3.has hu hv).2 hin
                  obtain ⟨lb, hlb, hlb2⟩ : ∃ lb, (lb = 5001 ∨ lb = 5003) ∧ la ≠ lb := by rcases hla with rfl | rfl; exact ⟨5003, .inr rfl, by omega⟩; exact ⟨5001, .inl rfl, by omega⟩
                  obtain ⟨lq, hlq, hlq2⟩ : ∃ lq, (lq = 5002 ∨ lq = 5004) ∧ lo ≠ lq := by rcases hlo with rfl | rfl; exact ⟨5004, .inr rfl, by omega⟩; exact ⟨5002, .inl rfl, by omega⟩
                  by_cases h41 : r4 = 1
                  · subst h41
                    obtain ⟨x, y, A, M, B, hw, hs⟩ := E3.both hu huv hY
                    have hct := cut_t _ _ 1 p n Y _ u v x y A M B T6 hu hv huv hw hs
                    go_wp2_with fail
                    refine hct.mono ?_
                    rintro e w8 ⟨rfl, o8, T8, s8⟩
                    have R8 : RowP _ _ la _ l := Row.step R6 s8 (TL.no (by omega))
                    have Q8 : RowP _ _ lo _ on := Row.step Q6 s8 (TL.no (by omega))
                    have t8 := t6.trans (s8.posT (by omega))
                    have hwo := without_any w8 o8 la lb u v k _ l R8 hlb2 HL.out.1 B3.once HK.out
                    clear hct s8 R6 Q6 t6 T6 B6 d0 d1 d2 d3 d4 d5
                    as_aux_lemma =>
                      go_wp2_with fail
                      refine hwo.mono ?_
                      rintro e w9 ⟨v9, o9, l', lc, rfl, R9, OL, hlc, s9⟩
                      have T9 := T8.step s9 (fun k hk e => TL.no (by omega) hk)
                      have Q9 : RowP _ _ lo _ on := Row.step Q8 s9 (by omega)
                      have t9 := t8.trans (s9.mono (J := Pos) fun k hk => by unfold Pos; omega)
                      have hwo := without_any w9 o9 lo lq u v m _ on Q9 hlq2 HL.out.2 B3.once2 HM.out
                      clear s9 R8 Q8 t8 T8
                      go_wp2_with fail
                      refine hwo.mono ?_
                      rintro e w10 ⟨v10, o10, on', ld, rfl, Q10, OO, hld, s10⟩
                      have R : MkS w p n (j + 1) v9 v10 w10 := ⟨o10, _, val, mk, l', on', lc, ld, T9.step s10 (fun k hk e => TL.no (by omega) hk), (B3.cut E3 hu hv huv hw hs OL OO).more, Row.step R9 s10 (by omega), Q10, by omega, by omega, t9.trans (s10.mono (J := Pos) fun k hk => by unfold Pos; omega)⟩
                      clear hwo s10 T9 R9 Q9 Q10 t9 OL OO
                      go_wp2
                      go_roundg (121 - (j + 1))
                      case measure => omega
                      case rel => exact ⟨j + 1, by go_num, by omega, by omega, rfl, R⟩
                  · have hr5 : ((r4 : Int) == 1) = false := by simp only [beq_eq_false_iff_ne, ne_eq]; omega
                    have hY2 : (v, u) ∈ Y v := by
                      have q := E3.back u hu _ hY
                      rw [(E3.one u hu _ hY).2.2.2]; exact q
                    have hct := markEdge_t _ _ 1 p n Y val mk v u bo T6 hv hu huv.symm hY2
                    go_wp2_with fail
                    refine hct.mono ?_
                    rintro e w8 ⟨rfl, o8, T8, s8⟩
                    have R8 : RowP _ _ la _ l := Row.step R6 s8 (TL.no (by omega))
                    have Q8 : RowP _ _ lo _ on := Row.step Q6 s8 (TL.no (by omega))
                    have t8 := t6.trans (s8.posT (by omega))
                    have B8 := B6.step s8 (TL.no (by omega))
                    have hwo := without_any w8 o8 lo lq u v m _ on Q8 hlq2 HL.out.2 B3.once2 HM.out
                    clear hct s8 R6 Q6 t6 T6 B6 d0 d1 d2 d3 d4 d5
                    as_aux_lemma =>
                      go_wp2_with fail
                      refine hwo.mono ?_
                      rintro e w9 ⟨v9, o9, on', ld, rfl, Q9, OO, hld, s9⟩
                      have T9 := T8.step s9 (fun k hk e => TL.no (by omega) hk)
                      have R9 : RowP _ _ la _ l := Row.step R8 s9 (by omega)
                      have t9 := t8.trans (s9.mono (J := Pos) fun k hk => by unfold Pos; omega)
                      have BB := B3.mark1 OO hin huv bo
                      obtain ⟨d0, d1, d2, d3, d4, d5⟩ := (B8.step s9 (by omega)).cells6
                      clear s9 R8 Q8 t8 T8 hwo B8
                      cases bo
                      · have R : MkS w p n (j + 1) _ v9 w9 := ⟨o9, _, val, _, l, on', la, ld, T9, BB, R9, Q9, hla, by omega, t9⟩
                        clear T9 R9 Q9 t9 OO BB
                        go_wp2
                        go_roundg (121 - (j + 1))
                        case measure => omega
                        case rel => exact ⟨j + 1, by go_num, by omega, by omega, rfl, R⟩
                      · have hon' : on'.length ≤ 1000 := Nat.le_trans OO.len HL.out.2
                        obtain ⟨ao', cap', rfl⟩ := Q9.form
                        have n9 := newStep (fun _ => False) w9 o9 5012 (.cells #[.int .i64 u, .int .i64 v] 49)
                        have B9 : Blk (w9.alloc (.cells #[.int .i64 u, .int .i64 v] 49)) (newLab w9 o9 5012) 5012 w9.heap.size (.cells #[.int .i64 u, .int .i64 v] 49 (0, 0)) := ⟨heap_alloc_new w9 _, newLab_new (Nat.le_refl _)⟩
                        have T10 := T9.quiet n9
                        have R10 : RowP _ _ la _ l := Row.step R9 n9 id
                        have Q10 : RowP _ _ ld _ on' := Row.step Q9 n9 id
                        have t10 := t9.trans n9.pos0
                        have hc9 := pair_cells B9
                        have hl9 : (pairsL [(u, v)]).length = 1 * 2 := rfl
                        have b9 : on'.length + 1 ≤ maxLen := by unfold maxLen; omega
                        have b10 : (on'.length + 1) * 16 ≤ 140737488355328 := by omega
                        clear R9 Q9 t9 T9 n9 B9 OO
                        go_wp2_with (first | (at_builtin; refine wpList_append_lab rfl _ _ 43 rfl 49 ii (.agg #[.int .i64 0, .int .i64 0]) 2 16 Try.underlying43 hii hzi0 hzi1 hzi2 rfl (by decide) (newLab w9 o9 5012) ld _ on'.length (pairsL on') rfl Q10 ⟨w9.heap.size, 0, none⟩ 1 1 (pairsL [(u, v)]) rfl hl9 hc9 (pairsL_one _) (by decide) b9 b10 ?_) | go_in)
                        intro g11 c11 w11 o11 r11 s11
                        have R : MkS w p n (j + 1) _ (.slice (some ⟨g11, 0, none⟩) (on'.length + 1) c11) w11 := ⟨o11, _, val, _, l, on' ++ [(u, v)], la, ld, T10.step s11 (fun k hk e => TL.no (by omega) hk), BB, Row.step R10 s11 (by omega), by show Row _ _ _ _ _ _ _ _; rw [pairsL_append, List.length_append]; exact r11, hla, by omega, t10.trans (s11.mono (J := Pos) fun k hk => by unfold Pos; omega)⟩
                        clear r11 s11 T10 R10 Q10 t10 hc9 BB
                        go_wp2
                        go_roundg (121 - (j + 1))
                        case measure => omega
                        case rel => exact ⟨j + 1, by go_num, by omega, by omega, rfl, R⟩
              · have hk1 : k < 0 := by omega
                clear hA hr3 hk0
                go_wp2_with fail
                as_aux_lemma =>
                  refine hpk.mono ?_
                  rintro e w7 ⟨r4, hr4, rfl, hw7⟩
                  obtain rfl : w6 = w7 := hw7.symm
                  clear hpk
                  have HNO : Hid (∀ s ∈ l, s ≠ (u, v) ∧ s ≠ (v, u)) := HK.out.neg hk1
                  have hno : ¬ (u ≠ v ∧ (u, v) ∈ Y u) := fun h => by
                    rcases (B3.has hu hv).1 h with q | q
                    · exact (HNO.out _ q).1 rfl
                    · exact (HNO.out _ q).2 rfl
                  have hno2 : ¬ (v ≠ u ∧ (v, u) ∈ Y v) := fun h => by
                    rcases (B3.has hv hu).1 h with q | q
                    · exact (HNO.out _ q).2 rfl
                    · exact (HNO.out _ q).1 rfl
                  obtain ⟨lb, hlb, hlb2⟩ : ∃ lb, (lb = 5001 ∨ lb = 5003) ∧ la ≠ lb := by rcases hla with rfl | rfl; exact ⟨5003, .inr rfl, by omega⟩; exact ⟨5001, .inl rfl, by omega⟩
                  obtain ⟨lq, hlq, hlq2⟩ : ∃ lq, (lq = 5002 ∨ lq = 5004) ∧ lo ≠ lq := by rcases hlo with rfl | rfl; exact ⟨5004, .inr rfl, by omega⟩; exact ⟨5002, .inl rfl, by omega⟩
                  by_cases h41 : r4 = 1
                  · subst h41
                    have hct := cut_none_t _ _ 1 p n Y _ u v T6 hu hv hno
                    clear hno hno2
                    go_wp2_with fail
                    refine hct.mono ?_
                    rintro e w8 ⟨rfl, o8, T8, s8⟩
                    have R8 : RowP _ _ la _ l := Row.step R6 s8 (TL.no (by omega))
                    have Q8 : RowP _ _ lo _ on := Row.step Q6 s8 (TL.no (by omega))
                    have t8 := t6.trans (s8.posT (by omega))
                    have hwo := without_any w8 o8 la lb u v k _ l R8 hlb2 HL.out.1 B3.once HK.out
                    clear hct s8 R6 Q6 t6 T6 B6 d0 d1 d2 d3 d4 d5
                    go_wp2_with fail
                    refine hwo.mono ?_
                    rintro e w9 ⟨v9, o9, l', lc, rfl, R9, OL, hlc, s9⟩
                    have T9 := T8.step s9 (fun k hk e => TL.no (by omega) hk)
                    have Q9 : RowP _ _ lo _ on := Row.step Q8 s9 (by omega)
                    have t9 := t8.trans (s9.mono (J := Pos) fun k hk => by unfold Pos; omega)
                    have hwo := without_any w9 o9 lo lq u v m _ on Q9 hlq2 HL.out.2 B3.once2 HM.out
                    clear s9 R8 Q8 t8 T8
                    go_wp2_with fail
                    refine hwo.mono ?_
                    rintro e w10 ⟨v10, o10, on', ld, rfl, Q10, OO, hld, s10⟩
                    have TO := B3.told.alike (l' := l') (fun s => by rw [OL.mem]; exact ⟨fun h => h.1, fun h => ⟨h, HNO.out s h⟩⟩)
                    have R : MkS w p n (j + 1) v9 v10 w10 := ⟨o10, _, val, mk, l', on', lc, ld, T9.step s10 (fun k hk e => TL.no (by omega) hk), (B3.out OL OO TO).more, Row.step R9 s10 (by omega), Q10, by omega, by omega, t9.trans (s10.mono (J := Pos) fun k hk => by unfold Pos; omega)⟩
                    clear hwo s10 T9 R9 Q9 Q10 t9 OL OO TO HNO
                    go_wp2
                    go_roundg (121 - (j + 1))
                    case measure => omega
                    case rel => exact ⟨j + 1, by go_num, by omega, by omega, rfl, R⟩
                  · have hr5 : ((r4 : Int) == 1) = false := by simp only [beq_eq_false_iff_ne, ne_eq]; omega
                    have hct := markEdge_none_t _ _ 1 p n Y _ v u bo T6 hv hu hno2
                    clear hno hno2
                    go_wp2_with fail
                    refine hct.mono ?_
                    rintro e w8 ⟨rfl, o8, T8, s8⟩
                    have R8 : RowP _ _ la _ l := Row.step R6 s8 (TL.no (by omega))
                    have Q8 : RowP _ _ lo _ on := Row.step Q6 s8 (TL.no (by omega))
                    have t8 := t6.trans (s8.posT (by omega))
                    have B8 := B6.step s8 (TL.no (by omega))
                    have hwo := without_any w8 o8 lo lq u v m _ on Q8 hlq2 HL.out.2 B3.once2 HM.out
                    clear hct s8 R6 Q6 t6 T6 B6 d0 d1 d2 d3 d4 d5
                    go_wp2_with fail
                    refine hwo.mono ?_
                    rintro e w9 ⟨v9, o9, on', ld, rfl, Q9, OO, hld, s9⟩
                    have T9 := T8.step s9 (fun k hk e => TL.no (by omega) hk)
                    have R9 : RowP _ _ la _ l := Row.step R8 s9 (by omega)
                    have t9 := t8.trans (s9.mono (J := Pos) fun k hk => by unfold Pos; omega)
                    obtain ⟨d0, d1, d2, d3, d4, d5⟩ := (B8.step s9 (by omega)).cells6
                    have R : MkS w p n (j + 1) _ v9 w9 := ⟨o9, _, val, _, l, on', la, ld, T9, (B3.out (Out.none B3.once HNO.out) OO B3.told).more, R9, Q9, hla, by omega, t9⟩
                    clear s9 R8 Q8 t8 T8 hwo B8 T9 R9 Q9 t9 OO HNO
                    cases bo
                    all_goals
                      go_wp2
                      go_roundg (121 - (j + 1))
                      case measure => omega
                      case rel => exact ⟨j + 1, by go_num, by omega, by omega, rfl, R⟩
      · by_cases hj1 : (j : Int) < (len1 : Int)
        all_goals
          go_wp2
          go_meet
          exact ⟨j, hj2, o3, Y, val, mk, l, on, la, lo, T3, B3, R3, Q3, hla, hlo, t3⟩
  case rest =>
    obtain ⟨j, hj2, o3, Y, val, mk, l, on, la, lo, T3, B3, R3, Q3, hla, hlo, t3⟩ := hcut
    clear ha1 START
    as_aux_lemma =>
      obtain ⟨ms, E3⟩ := T3.eu
      have hlen := B3.len
      have hlen2 := B3.len2
      have HL : Hid (l.length ≤ 1000 ∧ on.length ≤ 1000) := ⟨by omega, by omega⟩
      obtain ⟨ao, cap, rfl⟩ := R3.form
      obtain ⟨ap, cap2, rfl⟩ := Q3.form
      have START : MkE w p n Y val mk l on la lo (.slice ao l.length cap) (.slice ap on.length cap2) wc := ⟨o3, T3, R3, Q3, t3⟩

      clear T3 R3 Q3 t3
      go_wp2
      go_loopg [17] n (fun gh iv wx => ∃ q : Nat, iv = .int .i64 (q : Nat) ∧ q ≤ n ∧ gh = n - q ∧ MkE w p n Y val mk l on la lo (.slice ao l.length cap) (.slice ap on.length cap2) wx)
      case atStart => exact ⟨0, by go_num, by omega, by omega, START⟩
      case round =>
        clear START
        obtain ⟨q, rfl, hq, rfl, o4, T4, R4, Q4, t4⟩ := hrel
        by_cases hqn : q < n
        · have hjo := joined_any wr o4 5005 la n q _ l (RowP.vw R4) (by omega) hqn (by omega) HL.out.1 (fun s hs => ⟨(B3.told.lt s hs).1, (B3.told.lt s hs).2.1⟩)
          have hqI : (q : Int) < (n : Int) := by omega
          go_wp2_with fail
          refine hjo.mono ?_
          rintro e w5 ⟨g, c5, b, o5, rfl, r5, HLe, s5⟩
          have T5 := T4.step s5 (fun k hk e => TL.no (by omega) hk)
          have R5 : RowP _ _ la _ l := Row.step R4 s5 (by omega)
          have Q5 : RowP _ _ lo _ on := Row.step Q4 s5 (by omega)
          have t5 := t4.trans (s5.mono (J := Pos) fun k hk => by unfold Pos; omega)
          have hb : ∀ v, v < n → (b v = true ↔ Y v = Y q) := fun v hv => B3.told.joined E3 hqn HLe hv
          have hsub : ∀ s ∈ on, s.1 < n ∧ s.2 < n := fun s hs => by
            rcases B3.sub s hs with h | h
            · exact ⟨(B3.told.lt _ h).1, (B3.told.lt _ h).2.1⟩
            · exact ⟨(B3.told.lt _ h).2.1, (B3.told.lt _ h).1⟩
          have hany := B3.any E3 hqn
          clear hjo HLe s5 T4 R4 Q4 t4
          go_wp2
          go_loopg [19, 20] on.length (fun gh va vi wy => ∃ i2 : Nat, va = .bool ((on.take i2).any (fun s => b s.1)) ∧ vi = .int .i64 (i2 : Nat) ∧ i2 ≤ on.length ∧ gh = on.length - i2 ∧ wy = w5)
          case atStart => exact ⟨0, by simp, by go_num, by omega, by omega, rfl⟩
          case round =>
            obtain ⟨i2, rfl, rfl, hi2, rfl, rfl⟩ := hrel
            by_cases hin : i2 < on.length
            · obtain ⟨gq, cq, hvv, _, _, _, _, q5, _⟩ := Q5.pos (by omega)
              simp only [Value.slice.injEq, true_and] at hvv
              obtain ⟨rfl, rfl⟩ := hvv
              obtain ⟨x1, x2⟩ := pairsL_get on i2 hin
              have y1 := (q5 _ (by omega)).trans x1
              have y2 := (q5 _ (by omega)).trans x2
              obtain ⟨lt1, lt2⟩ := hsub _ (List.getElem_mem hin)
              obtain ⟨g1, c1, hv1, hg1, hg2', hg3', hg4, hg5, hg6⟩ := r5.pos (by omega)
              simp only [Value.slice.injEq, Option.some.injEq, Addr.mk.injEq, and_true, true_and] at hv1
              obtain ⟨rfl, rfl⟩ := hv1
              have cu := (hg5 _ (by omega)).trans (boolsL_get b lt1)
              have et : on.take (i2 + 1) = on.take i2 ++ [on[i2]] := List.take_succ_eq_append_getElem hin
              have HD : Hid ((on.take (i2 + 1)).any (fun s => b s.1) = ((on.take i2).any (fun s => b s.1) || b on[i2].1)) := by
                show _ = _
                rw [et, List.any_append]; simp
              obtain ⟨an, han⟩ : ∃ an, an = (on.take i2).any (fun s => b s.1) := ⟨_, rfl⟩
              obtain ⟨u, hu⟩ : ∃ u, u = on[i2].1 := ⟨_, rfl⟩
              obtain ⟨bu, hbu⟩ : ∃ bu, bu = b u := ⟨_, rfl⟩
              rw [← han, ← hu, ← hbu] at HD
              rw [← han]
              rw [← hu] at y1 cu lt1
              rw [← hbu] at cu
              have huI : (u : Int) < (n : Int) := by omega
              have hiI : (i2 : Int) < (on.length : Int) := by omega
              unfold maxLen at hg3'
              clear et q5 hg5 hg6 x1 x2 han hu hbu hany hsub hb
              cases an
              all_goals
                go_wp2
                go_roundg (on.length - (i2 + 1))
                case measure => omega
                case rel => exact ⟨i2 + 1, by rw [HD.out]; simp, by go_num, by omega, rfl, rfl⟩
            · obtain rfl : i2 = on.length := by omega
              rw [List.take_length]
              have hany2 : on.any (fun s => b s.1) = true ↔ ∃ s ∈ Y q, s.1 ≠ s.2 ∧ mk s = true := by
                rw [← hany, List.any_eq_true]
                constructor
                · rintro ⟨s, hs, hbs⟩; exact ⟨s, hs, (hb _ (hsub s hs).1).1 hbs⟩
                · rintro ⟨s, hs, hbs⟩; exact ⟨s, hs, (hb _ (hsub s hs).1).2 hbs⟩
              have hfl := agg_flags2 (X := Y q) (val := val) B3.stop
              by_cases hx : ∃ s ∈ Y q, s.1 ≠ s.2 ∧ mk s = true
              · rw [if_pos hx] at hfl
                rw [hany2.2 hx]
                obtain ⟨A, s, B, hs1, hs2, hs3⟩ := first_of (p := fun s => decide (s.1 ≠ s.2) && mk s) (X := Y q) (by obtain ⟨s, h1, h2, h3⟩ := hx; exact ⟨s, h1, by simp [h2, h3]⟩)
                simp only [Bool.and_eq_true, decide_eq_true_iff] at hs3
                have hsm : s ∈ Y q := by rw [hs1]; simp
                obtain ⟨z1, z2, z3, z4⟩ := E3.one q hqn s hsm
                have hbs : b s.1 = true := (hb _ z1).2 z3
                have HON : Hid (s ∈ on ∨ (s.2, s.1) ∈ on) := (B3.mark s.1 s.2 ((B3.told.has s.1 s.2 z1 z2 hs3.1).1 (by rw [z3]; exact hsm))).1 hs3.2
                have hme := markedEdge_t wr o5 1 p n Y val mk q A B s T5 hqn hs1 (fun t ht hne => by have := hs2 t ht; simp [hne] at this; exact this) hs3.1 hs3.2
                clear hany hany2 hx hs1 hs2 hs3 hsm z3 z4 hb hsub
                go_wp2_with fail
                refine hme.mono ?_
                rintro e w6 ⟨rfl, o6, T6, s6⟩
                have R6 : RowP _ _ la _ l := Row.step R5 s6 (TL.no (by omega))
                have Q6 : RowP _ _ lo _ on := Row.step Q5 s6 (TL.no (by omega))
                have r6 := r5.step s6 (TL.no (by omega))
                have t6 := t5.trans (s6.posT (by omega))
                clear hme s6 T5 R5 Q5 r5 t5
                obtain ⟨su, sv⟩ := s
                simp only at hbs z1 z2 HON ⊢
                have n7 := newStep (fun _ => False) w6 o6 5013 (.cells #[.int .i64 su, .int .i64 sv] 49)
                have B7 : Blk (w6.alloc (.cells #[.int .i64 su, .int .i64 sv] 49)) (newLab w6 o6 5013) 5013 w6.heap.size (.cells #[.int .i64 su, .int .i64 sv] 49 (0, 0)) := ⟨heap_alloc_new w6 _, newLab_new (Nat.le_refl _)⟩
                have hsum := sum_t _ _ 1 p n Y _ q (T6.quiet n7) hqn
                have R7 : RowP _ _ la _ l := Row.step R6 n7 id
                have Q7 : RowP _ _ lo _ on := Row.step Q6 n7 id
                have r7 := r6.step n7 id
                have t7 := t6.trans n7.pos0
                clear n7 R6 Q6 r6 t6 T6
                obtain ⟨G, hG⟩ : ∃ G, G = agg ((Y q).map (Dm val mk)) := ⟨_, rfl⟩
                rw [← hG] at hsum hfl
                clear hG
                go_wp2_with fail
                refine hsum.mono ?_
                rintro e w8 ⟨rfl, o8, T8, s8⟩
                have B8 := B7.step s8 (TL.no (by omega))
                generalize w6.heap.size = bp at *
                have n9 := newStep (fun _ => False) w8 o8 5014 (.cells #[.int .i64 G.count, .int .i64 G.sum, .int .i64 G.least, .int .i64 G.most, .int .i64 G.flags] 62)
                have B9 : Blk (w8.alloc (.cells #[.int .i64 G.count, .int .i64 G.sum, .int .i64 G.least, .int .i64 G.most, .int .i64 G.flags] 62)) (newLab w8 o8 5014) 5014 w8.heap.size (.cells #[.int .i64 G.count, .int .i64 G.sum, .int .i64 G.least, .int .i64 G.most, .int .i64 G.flags] 62 (0, 0)) := ⟨heap_alloc_new w8 _, newLab_new (Nat.le_refl _)⟩
                have T9 := T8.quiet n9
                have R9 : RowP _ _ la _ l := Row.step (Row.step R7 s8 (TL.no (by omega))) n9 id
                have Q9 : RowP _ _ lo _ on := Row.step (Row.step Q7 s8 (TL.no (by omega))) n9 id
                have r9 := (r7.step s8 (TL.no (by omega))).step n9 id
                have t9 := (t7.trans (s8.posT (by omega))).trans n9.pos0
                obtain ⟨p0, p1, pf⟩ := (B8.step n9 id).cells2f
                obtain ⟨s0, s1, s2, s3, s4, sf⟩ := B9.cells5
                obtain ⟨g1, c1, hv1, hg1, hg2', hg3', hg4, hg5, hg6⟩ := r9.pos (by omega)
                simp only [Value.slice.injEq, Option.some.injEq, Addr.mk.injEq, and_true, true_and] at hv1
                obtain ⟨rfl, rfl⟩ := hv1
                have cu := (hg5 _ (by omega)).trans (boolsL_get b z1)
                rw [hbs] at cu
                have hpl := place_is _ _ lo su sv _ on Q9 HL.out.2
                have huI : (su : Int) < (n : Int) := by omega
                unfold maxLen at hg3'
                clear hsum s8 B7 B8 n9 B9 T8 R7 Q7 r7 t7 hg5 hg6 r9 pf sf
                unfold aggV
                rw [hfl] at hpl T9 R9 Q9 t9 p0 p1 s0 s1 s2 s3 s4 cu ⊢
                have e2 : ((2 : Nat) : Int) = 2 := rfl
                rw [e2] at hpl T9 R9 Q9 t9 p0 p1 s0 s1 s2 s3 s4 cu ⊢
                clear e2
                go_wp2_with fail
                refine hpl.mono ?_
                rintro e w10 ⟨r, rfl, s10, hr⟩
                have hr0 : 0 ≤ r := by
                  rcases hr with ⟨_, h⟩ | ⟨k, hk, rfl, _⟩
                  · rcases HON.out with z | z
                    · exact absurd rfl (h _ z).1
                    · exact absurd rfl (h _ z).2
                  · omega
                have R : MkE w p n Y val mk l on la lo (.slice ao l.length cap) (.slice ap on.length cap2) w10 := ⟨_, T9.quiet s10, Row.step R9 s10 id, Row.step Q9 s10 id, t9.trans s10.pos0⟩
                clear hpl T9 R9 Q9 t9 s10 hr p0 p1 s0 s1 s2 s3 s4 cu
                go_wp2
                go_roundg (n - (q + 1))
                case measure => omega
                case rel => exact ⟨q + 1, by go_num, by omega, rfl, R⟩
              · rw [if_neg hx] at hfl
                rw [show on.any (fun s => b s.1) = false from Bool.eq_false_iff.2 (fun h => hx (hany2.1 h))]
                have hme := markedEdge_none_t wr o5 1 p n Y val mk q T5 hqn (fun s hs hne => by cases h : mk s with | false => rfl | true => exact absurd ⟨s, hs, hne, h⟩ hx)
                clear hany hany2 hx hb hsub
                go_wp2_with fail
                refine hme.mono ?_
                rintro e w6 ⟨rfl, o6, T6, s6⟩
                have R6 : RowP _ _ la _ l := Row.step R5 s6 (TL.no (by omega))
                have Q6 : RowP _ _ lo _ on := Row.step Q5 s6 (TL.no (by omega))
                have t6 := t5.trans (s6.posT (by omega))
                clear hme s6 T5 R5 Q5 r5 t5
                have n7 := newStep (fun _ => False) w6 o6 5013 (.cells #[.int .i64 0, .int .i64 0] 49)
                have hsum := sum_t _ _ 1 p n Y _ q (T6.quiet n7) hqn
                have R7 : RowP _ _ la _ l := Row.step R6 n7 id
                have Q7 : RowP _ _ lo _ on := Row.step Q6 n7 id
                have t7 := t6.trans n7.pos0
                clear n7 R6 Q6 t6 T6
                obtain ⟨G, hG⟩ : ∃ G, G = agg ((Y q).map (Dm val mk)) := ⟨_, rfl⟩
                rw [← hG] at hsum hfl
                clear hG
                go_wp2_with fail
                refine hsum.mono ?_
                rintro e w8 ⟨rfl, o8, T8, s8⟩
                have n9 := newStep (fun _ => False) w8 o8 5014 (.cells #[.int .i64 G.count, .int .i64 G.sum, .int .i64 G.least, .int .i64 G.most, .int .i64 G.flags] 62)
                have B9 : Blk (w8.alloc (.cells #[.int .i64 G.count, .int .i64 G.sum, .int .i64 G.least, .int .i64 G.most, .int .i64 G.flags] 62)) (newLab w8 o8 5014) 5014 w8.heap.size (.cells #[.int .i64 G.count, .int .i64 G.sum, .int .i64 G.least, .int .i64 G.most, .int .i64 G.flags] 62 (0, 0)) := ⟨heap_alloc_new w8 _, newLab_new (Nat.le_refl _)⟩
                have R : MkE w p n Y val mk l on la lo (.slice ao l.length cap) (.slice ap on.length cap2) (w8.alloc (.cells #[.int .i64 G.count, .int .i64 G.sum, .int .i64 G.least, .int .i64 G.most, .int .i64 G.flags] 62)) := ⟨_, T8.quiet n9, Row.step (Row.step R7 s8 (TL.no (by omega))) n9 id, Row.step (Row.step Q7 s8 (TL.no (by omega))) n9 id, (t7.trans (s8.posT (by omega))).trans n9.pos0⟩
                obtain ⟨s0, s1, s2, s3, s4, sf⟩ := B9.cells5
                clear hsum s8 n9 B9 T8 R7 Q7 t7 sf
                unfold aggV
                rw [hfl] at R s0 s1 s2 s3 s4 ⊢
                go_wp2
                go_roundg (n - (q + 1))
                case measure => omega
                case rel => exact ⟨q + 1, by go_num, by omega, rfl, R⟩
        · have HB := t4.old
          clear T4 R4 Q4 t4
          go_wp2
          go_ret
          exact ⟨rfl, HB⟩

end Go.Proofs.Ytnpfagpgploolaa
