/- The walk of the law LinkcutStands. -/
import Derived.Test.YtddjaldamfileaaStandsP
namespace Go.Proofs.Ytddjaldamfileaa
open Go.ChangeShapes Go.WideShapes Go.ChangeAt Go.RowKit Go.Maps
set_option linter.unusedVariables false

/-- The trees and the list behind so many calls. -/
def StS (w : World) (p n j : Nat) (vl : Value) (wr : World) : Prop :=
  ∃ o' ed R l la, Tx wr o' 1 p n ed R j ∧ TolD ed l ∧ l.length ≤ j ∧ (la = 5000000000010 ∨ la = 5000000000011) ∧ Row wr o' la 42 4 vl l.length (elv l) ∧ Step Pos w o0 wr o'

/-- The end's state. -/
def EnS (w : World) (p n j la : Nat) (ed : Nat → Option Ed) (R : Nat → List Nat) (l : List (Nat × Ed)) (vl : Value) (wr : World) : Prop :=
  ∃ o', Tx wr o' 1 p n ed R j ∧ Row wr o' la 42 4 vl l.length (elv l) ∧ Step Pos w o0 wr o'
def EnB (w : World) (p n j la : Nat) (ed : Nat → Option Ed) (R : Nat → List Nat) (l : List (Nat × Ed)) (vl : Value) (g cap : Nat) (b : Nat → Bool) (wr : World) : Prop :=
  ∃ o', Tx wr o' 1 p n ed R j ∧ Row wr o' la 42 4 vl l.length (elv l) ∧ Row wr o' 5000000000020 4 1 (.slice (some ⟨g, 0, none⟩) n cap) n (boolsL b n) ∧ Step Pos w o0 wr o'

set_option maxRecDepth 100000 in
set_option maxHeartbeats 8000000 in
theorem stands_walk (w : World) (c0 : Int) (a1 : Option Addr) (len1 cap1 : Nat) (f : Nat → OpT) (ha1 : ArgOps w o0 a1 len1 f) (h1 : len1 ≤ 9223372036854775807) (hc0 : -9223372036854775808 ≤ c0 ∧ c0 ≤ 9223372036854775807) :
    Calls Try.prog 4 #[.int .i64 c0, .slice a1 len1 cap1] w fun e w' => e = .returned (.bool true) ∧ Below w.heap.size w w' := by
  have npos : ¬ Pos 0 := by unfold Pos; omega
  obtain ⟨ie, hie, hze0, hze1, hze2⟩ := info_parts infoEdge
  go_enter Try.func4, Try.ntmps4
  go_wp2_with fail
  refine (awake_any w).mono ?_
  rintro e w1 ⟨rfl, hb1⟩
  have t1 : Step Pos w o0 w1 o0 := Step.ofBelow o0 hb1
  go_wp2_with fail
  refine (pick_any c0 64 w1 hc0.1 hc0.2 (by omega) (by omega)).mono ?_
  rintro e w2 ⟨n0, hn0, rfl, hw2⟩
  obtain rfl : w1 = w2 := hw2.symm
  obtain ⟨n, hn⟩ : ∃ n, n = n0 + 1 := ⟨_, rfl⟩
  have HN : Hid (1 + (n0 : Int) = (n : Int)) := by show _ = _; omega
  have hn1 : 1 ≤ n := by omega
  have hn2 : n ≤ 64 := by omega
  clear hn
  go_wp2_with fail
  rw [HN.out]
  clear HN
  refine (new_in w1 o0 1 n hn1 hn2).mono ?_
  rintro e w2 ⟨p, o2, rfl, T2, s2⟩
  have START : StS w p n 0 (.slice none 0 0) w2 := ⟨o2, _, _, [], 5000000000010, T2, TolD.new, by simp, .inl rfl, Row.nil _ _ _ _ _, t1.trans (s2.posT (by omega))⟩
  clear T2 s2 t1 hb1 hn0
  go_upto_block 0 with fail
  go_cut [8] (fun vl wx => ∃ j : Nat, j ≤ 120 ∧ StS w p n j vl wx)
  case first =>
    go_wp2_with fail
    go_loopg [8, 9] 121 (fun gh vl i wr => ∃ j : Nat, i = .int .i64 (j : Nat) ∧ j ≤ len1 ∧ j ≤ 120 ∧ gh = 121 - j ∧ StS w p n j vl wr)
    case atStart => exact ⟨0, by go_num, by omega, by omega, by omega, START⟩
    case round =>
      clear START
      obtain ⟨j, rfl, hj, hj2, rfl, o3, ed, R, l, la, T3, D3, hll, hla, r3, t3⟩ := hrel
      by_cases hlt : j < len1 ∧ j < 120
      · obtain ⟨hlt, hlt2⟩ := hlt
        obtain ⟨b, off, rfl, hbl, hob, ⟨k0, k1, k2, k3, k4, k5⟩, ⟨ik1, ik2⟩, ⟨iu1, iu2⟩, ⟨iv1, iv2⟩, ⟨ix1, ix2⟩, ⟨iw1, iw2⟩⟩ := ha1.step t3 npos j hlt
        generalize f j = q at k0 k1 k2 k3 k4 k5 ik1 ik2 iu1 iu2 iv1 iv2 ix1 ix2 iw1 iw2
        obtain ⟨kd, cu, cw, cx, cy, bt⟩ := q
        simp only at k0 k1 k2 k3 k4 k5 ik1 ik2 iu1 iu2 iv1 iv2 ix1 ix2 iw1 iw2
        have hjl : (j : Int) < (len1 : Int) := by omega
        have hj120 : (j : Int) < 120 := by omega
        obtain ⟨ao, cap, rfl⟩ := r3.form
        have n1 := newStep (fun _ => False) wr o3 5000000000012 (.cells #[.int .i64 kd, .int .i64 cu, .int .i64 cw, .int .i64 cx, .int .i64 cy, .bool bt] 36)
        have B1 : Blk (wr.alloc (.cells #[.int .i64 kd, .int .i64 cu, .int .i64 cw, .int .i64 cx, .int .i64 cy, .bool bt] 36)) (newLab wr o3 5000000000012) 5000000000012 wr.heap.size (.cells #[.int .i64 kd, .int .i64 cu, .int .i64 cw, .int .i64 cx, .int .i64 cy, .bool bt] 36 (0, 0)) := ⟨heap_alloc_new wr _, newLab_new (Nat.le_refl _)⟩
        have T4 := T3.step n1 (fun _ _ => id)
        have r4 := r3.step n1 id
        have t4 := t3.trans n1.pos0
        clear T3 r3 t3 n1 ha1
        go_wp2_with fail
        obtain ⟨w4, hw4⟩ : ∃ w4, w4 = wr.alloc (.cells #[.int .i64 kd, .int .i64 cu, .int .i64 cw, .int .i64 cx, .int .i64 cy, .bool bt] 36) := ⟨_, rfl⟩
        obtain ⟨o4, ho4⟩ : ∃ o4, o4 = newLab wr o3 5000000000012 := ⟨_, rfl⟩
        rw [← hw4]
        rw [← hw4, ← ho4] at T4 r4 t4 B1
        clear hw4 ho4 k0 k1 k2 k3 k4 k5
        generalize wr.heap.size = po at *
        obtain ⟨⟨k0, k1, k2, k3, k4, k5⟩, kf⟩ := B1.cells6
        have hpu := pick_any cu n w4 iu1 iu2 (by omega) (by omega)
        have hpv := pick_any cw n w4 iv1 iv2 (by omega) (by omega)
        have hpk := pick_any kd 5 w4 ik1 ik2 (by omega) (by omega)
        refine hpu.mono ?_
        rintro e w5 ⟨u, hu, rfl, hw5⟩
        obtain rfl : w4 = w5 := hw5.symm
        clear hpu
        go_wp2_with fail
        refine hpv.mono ?_
        rintro e w5 ⟨v, hv, rfl, hw5⟩
        obtain rfl : w4 = w5 := hw5.symm
        clear hpv
        go_wp2_with fail
        refine hpk.mono ?_
        rintro e w5 ⟨r, hr, rfl, hw5⟩
        obtain rfl : w4 = w5 := hw5.symm
        clear hpk
        have huI : (u : Int) < (n : Int) := by omega
        have hvI : (v : Int) < (n : Int) := by omega
        have hT4 : Rt (liveN n ed) R := by obtain ⟨_, _, _, _, _, _, F⟩ := T4; exact F.rt
        have hla2 : ¬ TL 1 la := TL.no (by omega)
        have hrr : r = 3 ∨ r = 4 ∨ r = 2 ∨ (r = 0 ∨ r = 1) := by omega
        clear hr
        rcases hrr with rfl | rfl | rfl | h01
        · as_aux_lemma =>
            have hev := evert_in w4 o4 1 p n ed R j u T4 hu
            clear B1 k0 k1 k2 k3 k4 k5 kf
            go_wp2_with fail
            refine hev.mono ?_
            rintro e w5 ⟨rfl, T5, s5⟩
            have r5 := r4.step s5 hla2
            have t5 := t4.trans (s5.posT (by omega))
            have hro := root_in w5 o4 1 p n ed _ j u T5 hu
            clear hev T4 r4 t4 s5
            go_wp2_with fail
            refine hro.mono ?_
            rintro e w6 ⟨x, rfl, hx, T6, s6⟩
            obtain rfl : x = u := by
              have := hx.2.symm.trans (hT4.turn_head (liveN_v hu) (liveN_v hu) rfl)
              simp at this; omega
            have RR : StS w p n (j + 1) (.slice ao l.length cap) w6 := ⟨o4, ed, _, l, la, T6.mono (by omega), D3, by omega, hla, r5.step s6 hla2, t5.trans (s6.posT (by omega))⟩
            clear hro T5 r5 t5 s6 T6 hx
            go_wp2
            go_roundg (121 - (j + 1))
            case measure => omega
            case rel => exact ⟨j + 1, by go_num, by omega, by omega, rfl, RR⟩
        · as_aux_lemma =>
            have hlt4 : ∀ s ∈ pl l, s.1 < n ∧ s.2 < n := fun s hs => by
              obtain ⟨⟨i, x⟩, hm, rfl⟩ := List.mem_map.1 hs
              obtain ⟨_, q1, q2, _⟩ := T4.1.2.2.1 i x ((D3.tol i x).2 hm)
              exact ⟨q1, q2⟩
            have hpl : (pl l).length = l.length := by simp [pl]
            have hjn := joined_any w4 o4 5000000000020 la n u _ (pl l) r4.vwp (by omega) hu hn2 (by omega) hlt4
            clear B1 k0 k1 k2 k3 k4 k5 kf
            go_wp2_with fail
            refine hjn.mono ?_
            rintro e w5 ⟨g5, cap5, bb, o5, rfl, rb5, hL5, s5⟩
            have T5 := T4.step s5 (fun k hk z => TL.no (by omega) (z ▸ hk))
            have r5 := r4.step s5 (by omega)
            have t5 := t4.trans (s5.mono fun k hk => by unfold Pos; omega)
            have hbv := joined_b T4.1.2.2.2 T4.1.2.2.1 hT4 D3 hu hL5 hv
            have hsm := same_in w5 o5 1 p n ed R j u v T5 hu hv
            clear hjn T4 r4 t4 s5 hL5
            go_wp2_with fail
            refine hsm.mono ?_
            rintro e w6 ⟨rfl, T6, s6⟩
            have r6 := r5.step s6 hla2
            have rb6 := rb5.step s6 (TL.no (by omega))
            have t6 := t5.trans (s6.posT (by omega))
            obtain ⟨gg, cc, ee, _, _, _, _, hcb, _⟩ := rb6.pos (by omega)
            simp only [Value.slice.injEq, Option.some.injEq, Addr.mk.injEq, and_true, true_and] at ee
            obtain ⟨rfl, rfl⟩ := ee
            have cb := (hcb v (by omega)).trans (boolsL_get bb hv)
            rw [hbv] at cb
            clear hsm T5 r5 rb5 t5 s6 rb6 hcb hbv
            by_cases hd : (R (2 * u + 1)).head? = (R (2 * v + 1)).head?
            · as_aux_lemma =>
                rw [decide_eq_true hd] at cb ⊢
                go_wp2_with fail
                refine (path_in w6 o5 1 p n ed R j u v 5000000000021 T6 hu hv hd (TL.no (by omega))).mono ?_
                rintro e w7 ⟨va, o7, rfl, r7, T7, s7⟩
                have l7 := r6.step s7 (fun h => h.elim hla2 (by omega))
                have t7 := t6.trans (s7.posW (by omega) (by omega))
                have hbt := between_any w7 o7 p n j la ed R l _ u v T7 l7 ⟨hla2, by omega⟩ D3.tol (by omega) hu hv hd
                clear T6 r6 t6 s7 r7 cb
                go_wp2_with fail
                refine hbt.mono ?_
                rintro e w8 ⟨rfl, o8, T8, r8, s8⟩
                have RR : StS w p n (j + 1) (.slice ao l.length cap) w8 := ⟨o8, ed, R, l, la, T8.mono (by omega), D3, by omega, hla, r8, t7.trans (s8.mono fun k hk => hk.elim (fun h => by unfold Pos; have := h.1; omega) (fun h => by unfold Pos; omega))⟩
                clear hbt T7 l7 t7 T8 r8 s8
                go_wp2
                go_roundg (121 - (j + 1))
                case measure => omega
                case rel => exact ⟨j + 1, by go_num, by omega, by omega, rfl, RR⟩
            · as_aux_lemma =>
                rw [decide_eq_false hd] at cb ⊢
                go_wp2_with fail
                refine (path_none w6 o5 1 p n ed R j u v T6 hu hv hd).mono ?_
                rintro e w7 ⟨rfl, T7, s7⟩
                have RR : StS w p n (j + 1) (.slice ao l.length cap) w7 := ⟨o5, ed, R, l, la, T7.mono (by omega), D3, by omega, hla, r6.step s7 hla2, t6.trans (s7.posT (by omega))⟩
                clear T6 r6 t6 s7 T7 cb
                go_wp2
                go_roundg (121 - (j + 1))
                case measure => omega
                case rel => exact ⟨j + 1, by go_num, by omega, by omega, rfl, RR⟩
        · as_aux_lemma =>
            have hpx := pick_any cx 3 w4 ix1 ix2 (by omega) (by omega)
            go_upto_region 31 with fail
            go_cut [177] (fun c wx => ∃ bq : Bool, c = .bool bq ∧ (bq = true → 0 < l.length) ∧ wx = w4)
            case first =>
              by_cases hl0 : 0 < l.length
              · go_wp2_with fail
                refine hpx.mono ?_
                rintro e w6 ⟨r, hr, rfl, hw6⟩
                obtain rfl : w4 = w6 := hw6.symm
                clear hpx
                by_cases hr0 : r = 0
                · subst hr0
                  go_wp2
                  go_meet
                  exact ⟨false, rfl, (fun h => by cases h), rfl⟩
                · have hr1 : (0 : Int) < (r : Int) := by omega
                  go_wp2
                  go_meet
                  exact ⟨true, congrArg Value.bool (decide_eq_true (by omega)), fun _ => hl0, rfl⟩
              · clear hpx
                go_wp2
                go_meet
                exact ⟨false, rfl, (fun h => by cases h), rfl⟩
            case rest =>
            obtain ⟨bq, rfl, hbq, hwq⟩ := hcut
            obtain rfl : w4 = _ := hwq.symm
            clear hpx
            go_upto_if 177 with fail
            go_cut [] (fun wx => ∃ qi : Int, In64 qi ∧ wx.cell? ⟨po, 3, none⟩ = some (.int .i64 qi) ∧ Tx wx o4 1 p n ed R j ∧ Row wx o4 la 42 4 (.slice ao l.length cap) l.length (elv l) ∧ Step Pos w o0 wx o4)
            case first =>
              cases bq
              · have FF : In64 cx := ⟨ix1, ix2⟩
                go_wp2
                go_meet
                exact ⟨cx, FF, k3, T4, r4, t4⟩
              · have hl0 := hbq rfl
                obtain ⟨g, cap', hvv, q1, q2, q3, q4, q5, q6⟩ := r4.pos hl0
                simp only [Value.slice.injEq, true_and] at hvv
                obtain ⟨rfl, rfl⟩ := hvv
                have hwr : IntKind.i64.wrap (cx.tdiv 3) = cx.tdiv 3 := by
                  have hb := tdivk_bd 3 (by omega) ix1 ix2
                  obtain ⟨y, hy⟩ : ∃ y, y = cx.tdiv 3 := ⟨_, rfl⟩
                  rw [← hy] at hb ⊢
                  rw [IntKind.wrap_i64]; omega
                have hpy := pick_any (cx.tdiv 3) l.length w4 (tdivk_bd 3 (by omega) ix1 ix2).1 (tdivk_bd 3 (by omega) ix1 ix2).2 hl0 (by omega)
                have HQ : Hid (∀ r2, r2 < l.length → ∃ qi : Nat, w4.cell? ⟨g, r2 * 4, none⟩ = some (.int .i64 qi) ∧ qi ≤ 1099511627776) := fun r2 hr2 => by
                  have x1 := elv_get l r2 0 hr2 (by omega)
                  have y1 := (q5 (r2 * 4) (by omega)).trans x1
                  obtain ⟨z1, _⟩ := T4.1.2.2.1 _ _ ((D3.tol _ _).2 (List.getElem_mem hr2))
                  exact ⟨l[r2].1, y1, z1⟩
                clear q5 q6
                unfold maxLen at q3
                go_wp2_with fail
                refine hpy.mono ?_
                rintro e w6 ⟨r2, hr2, rfl, hw6⟩
                obtain rfl : w4 = w6 := hw6.symm
                obtain ⟨qi, hqi, hq2⟩ := HQ.out r2 hr2
                have hr2I : (r2 : Int) < (l.length : Int) := by omega
                have FIN : ∃ q : Int, q = (qi : Nat) ∧ In64 q ∧ (w4.setCell ⟨po, 3, none⟩ (.int .i64 q)).cell? ⟨po, 3, none⟩ = some (.int .i64 q) ∧ Tx (w4.setCell ⟨po, 3, none⟩ (.int .i64 q)) o4 1 p n ed R j ∧ Row (w4.setCell ⟨po, 3, none⟩ (.int .i64 q)) o4 la 42 4 (.slice (some ⟨g, 0, none⟩) l.length cap) l.length (elv l) ∧ Step Pos w o0 (w4.setCell ⟨po, 3, none⟩ (.int .i64 q)) o4 := by
                  have B2 : Blk (w4.setCell ⟨po, 3, none⟩ (.int .i64 (qi : Nat))) o4 5000000000012 po (.cells #[.int .i64 kd, .int .i64 cu, .int .i64 cw, .int .i64 (qi : Nat), .int .i64 cy, .bool bt] 36 (0, 0)) := B1.set 3 _
                  have sc := B1.stp2 3 (.int .i64 (qi : Nat))
                  exact ⟨_, rfl, ⟨by omega, by omega⟩, B2.cells6.1.2.2.2.1, T4.step sc (fun k hk z => TL.no (by omega) (z ▸ hk)), r4.step sc (by omega), t4.trans (sc.mono fun k hk => by unfold Pos; omega)⟩
                clear hpy HQ T4 r4 t4 B1
                go_wp2
                go_meet
                obtain ⟨q, rfl, F1, F2, F3, F4, F5⟩ := FIN
                exact ⟨_, F1, F2, F3, F4, F5⟩
            case rest =>
            clear T4 r4 t4 B1 k0 k1 k2 k3 k4 k5 kf hbq
            obtain ⟨qi, hq64, kq, T5, r5, t5⟩ := hcut
            have hid := id_any _ o4 la _ l qi r5 (by omega)
            go_wp2_with fail
            refine hid.mono ?_
            rintro e w6 ⟨r, rfl, hr, hw6⟩
            obtain rfl := hw6
            clear hid
            rcases D3.id hr with ⟨k, hk, rfl, rfl, hek⟩ | ⟨rfl, hno⟩
            · as_aux_lemma =>
                have hct := cut_in w6 o4 1 p n ed R j _ _ T5 hek
                clear hr
                go_wp2_with fail
                refine hct.mono ?_
                rintro e w7 ⟨rfl, R', T7, s7⟩
                have r7 := r5.step s7 hla2
                have t7 := t5.trans (s7.posT (by omega))
                clear hct T5 r5 t5 s7
                obtain ⟨lb, hlb, hne⟩ : ∃ lb, (lb = 5000000000010 ∨ lb = 5000000000011) ∧ la ≠ lb := by
                  rcases hla with rfl | rfl
                  · exact ⟨5000000000011, .inr rfl, by omega⟩
                  · exact ⟨5000000000010, .inl rfl, by omega⟩
                have hlb2 : ¬ TL 1 lb := TL.no (by omega)
                obtain ⟨g, cap', hvv, q1, q2, q3, q4, q5, q6⟩ := r7.pos (by omega)
                simp only [Value.slice.injEq, true_and] at hvv
                obtain ⟨rfl, rfl⟩ := hvv
                clear q5 q6
                unfold maxLen at q3
                have hk1 : (k : Int) ≤ (l.length : Int) := by omega
                have hk2 : (k : Int) ≤ (cap : Int) := by omega
                have hk3 : (k : Int) + 1 ≤ (l.length : Int) := by omega
                have hk4 : (l.length : Int) ≤ (cap : Int) := by omega
                have rn : Row w7 o4 lb 42 4 (.slice none 0 0) 0 [] := Row.nil _ _ _ _ _
                have c1 := elv_cells 0 k r7
                rw [List.drop_zero, Nat.zero_mul] at c1
                have n1 : (elv (l.take k)).length = k * 4 := by rw [elv_len, List.length_take, Nat.min_eq_left (by omega)]
                have b1 : 0 + k ≤ maxLen := by simp only [maxLen]; omega
                have b2 : (0 + k) * 32 ≤ 140737488355328 := by omega
                go_wp2_with (first | (at_builtin; refine wpList_append_lab3 rfl (.tmp 203) (.tmp 206) 40 rfl 42 ie (.agg #[.int .i64 0, .int .i64 0, .int .i64 0, .int .i64 0]) 4 32 Try.underlying40 hie hze0 hze1 hze2 rfl (by decide) o4 lb _ 0 [] rfl rn ⟨g, 0, none⟩ k cap (elv (l.take k)) rfl n1 c1 (elv_one _) (fun _ => rfl) b1 b2 ?_) | go_in)
                intro v8 w8 o8 r8 s8 z8
                have hv8 := r7.step s8 hne
                have T8 := T7.step s8 (fun k hk x => hlb2 (x ▸ hk))
                have t8 := t7.trans (s8.mono fun k hk => by unfold Pos; omega)
                have c2 := elv_cells (k + 1) (l.length - (k + 1)) hv8
                rw [List.take_of_length_le (show (l.drop (k + 1)).length ≤ l.length - (k + 1) by rw [List.length_drop]; omega)] at c2
                have n2 : (elv (l.drop (k + 1))).length = (l.length - (k + 1)) * 4 := by rw [elv_len, List.length_drop]
                have b3 : k + (l.length - (k + 1)) ≤ maxLen := by unfold maxLen; omega
                have b4 : (k + (l.length - (k + 1))) * 32 ≤ 140737488355328 := by omega
                have eN : Hid (k + (l.length - (k + 1)) = (l.take k ++ l.drop (k + 1)).length) := by show _ = _; simp; omega
                have eL : Hid (l = l.take k ++ (l[k].1, l[k].2) :: l.drop (k + 1)) := by
                  show l = l.take k ++ l[k] :: l.drop (k + 1)
                  rw [← List.drop_eq_getElem_cons hk, List.take_append_drop]
                try rw [Nat.zero_add] at z8
                clear rn c1 n1 b1 b2 r7 s8 T7 t7 kq hek
                by_cases hcap : cap = k + 1
                · as_aux_lemma =>
                    have c3 : ∀ j u, (elv (l.drop (k + 1)))[j]? = some u → w8.cell? ((⟨g, 0, none⟩ : Addr).add j) = some u := fun j u hj => by
                      have := (List.getElem?_eq_some_iff.1 hj).1
                      rw [n2] at this; omega
                    have hc0 : cap - (k + 1) = 0 := by omega
                    clear c2
                    go_wp2_with (first | (at_builtin; refine wpList_append_lab3 rfl (.tmp 208) (.tmp 212) 40 rfl 42 ie (.agg #[.int .i64 0, .int .i64 0, .int .i64 0, .int .i64 0]) 4 32 Try.underlying40 hie hze0 hze1 hze2 rfl (by decide) o8 lb _ k (elv (l.take k)) rfl r8 ⟨g, 0, none⟩ (l.length - (k + 1)) 0 (elv (l.drop (k + 1))) rfl n2 c3 (elv_one _) z8 b3 b4 ?_) | go_in)
                    intro v9 w9 o9 r9 s9 z9
                    have R9 : Row w9 o9 lb 42 4 v9 (l.take k ++ l.drop (k + 1)).length (elv (l.take k ++ l.drop (k + 1))) := by rw [elv_append, ← eN.out]; exact r9
                    have RR : StS w p n (j + 1) v9 w9 := ⟨o9, _, R', l.take k ++ l.drop (k + 1), lb, (T8.step s9 (fun k hk x => hlb2 (x ▸ hk))).mono (by omega), D3.cut eL.out, by rw [← eN.out]; omega, hlb, R9, t8.trans (s9.mono fun k hk => by unfold Pos; omega)⟩
                    clear r9 r8 s9 hv8 T8 t8 R9
                    go_wp2
                    go_roundg (121 - (j + 1))
                    case measure => omega
                    case rel => exact ⟨j + 1, by go_num, by omega, by omega, rfl, RR⟩
                · as_aux_lemma =>
                    have hc1 : ((k : Int) + 1 = (cap : Int)) = False := by simp; omega
                    go_wp2_with (first | (at_builtin; refine wpList_append_lab3 rfl (.tmp 208) (.tmp 212) 40 rfl 42 ie (.agg #[.int .i64 0, .int .i64 0, .int .i64 0, .int .i64 0]) 4 32 Try.underlying40 hie hze0 hze1 hze2 rfl (by decide) o8 lb _ k (elv (l.take k)) rfl r8 ⟨g, (k + 1) * 4, none⟩ (l.length - (k + 1)) (cap - (k + 1)) (elv (l.drop (k + 1))) rfl n2 c2 (elv_one _) z8 b3 b4 ?_) | go_in)
                    intro v9 w9 o9 r9 s9 z9
                    have R9 : Row w9 o9 lb 42 4 v9 (l.take k ++ l.drop (k + 1)).length (elv (l.take k ++ l.drop (k + 1))) := by rw [elv_append, ← eN.out]; exact r9
                    have RR : StS w p n (j + 1) v9 w9 := ⟨o9, _, R', l.take k ++ l.drop (k + 1), lb, (T8.step s9 (fun k hk x => hlb2 (x ▸ hk))).mono (by omega), D3.cut eL.out, by rw [← eN.out]; omega, hlb, R9, t8.trans (s9.mono fun k hk => by unfold Pos; omega)⟩
                    clear r9 r8 s9 hv8 T8 t8 R9
                    go_wp2
                    go_roundg (121 - (j + 1))
                    case measure => omega
                    case rel => exact ⟨j + 1, by go_num, by omega, by omega, rfl, RR⟩
            · as_aux_lemma =>
                have hct := cut_none w6 o4 1 p n ed R j _ T5 hq64 hno
                clear hr
                go_wp2_with fail
                refine hct.mono ?_
                rintro e w7 ⟨rfl, hw7⟩
                obtain rfl := hw7
                have RR : StS w p n (j + 1) (.slice ao l.length cap) w7 := ⟨o4, ed, R, l, la, T5.mono (by omega), D3, by omega, hla, r5, t5⟩
                clear hct T5 r5 t5 hno
                go_wp2
                go_roundg (121 - (j + 1))
                case measure => omega
                case rel => exact ⟨j + 1, by go_num, by omega, by omega, rfl, RR⟩
        · as_aux_lemma =>
            go_upto_if 122 with fail
            go_cut [122] (fun c wx => c = .bool true ∧ wx = w4)
            case first =>
              rcases h01 with rfl | rfl
              all_goals
                clear B1 T4 r4 t4 k0 k1 k2 k3 k4 k5 kf
                go_wp2
                go_meet
                exact ⟨rfl, rfl⟩
            case rest =>
            obtain ⟨rfl, hwq⟩ := hcut
            obtain rfl : w4 = _ := hwq.symm
            clear h01
            obtain ⟨F, HP, hF1, hF2⟩ : ∃ F : Int → Int → Nat, Hid (∀ (c m : Int) (wx : World), (c = cx ∧ m = 200 ∨ c = cy ∧ m = 21) → Calls Try.prog 12 #[.int .i64 c, .int .i64 m] wx fun e w' => e = .returned (.int .i64 (F c m)) ∧ w' = wx) ∧ F cx 200 < 200 ∧ F cy 21 < 21 := by
              refine ⟨fun c m => pkN c m.toNat, fun c m wx h => ?_, pkN_lt _ _ (by decide), pkN_lt _ _ (by decide)⟩
              rcases h with ⟨rfl, rfl⟩ | ⟨rfl, rfl⟩
              · exact pick_is _ 200 wx ix1 ix2 (by omega) (by omega)
              · exact pick_is _ 21 wx iw1 iw2 (by omega) (by omega)
            have ky : w4.cell? ⟨po, 3, none⟩ = some (.int .i64 cx) ∧ w4.cell? ⟨po, 4, none⟩ = some (.int .i64 cy) := ⟨k3, k4⟩
            go_upto_region 23 with fail
            go_cut [13] (fun xv wx => ∃ px o5, xv = .pointer (some ⟨px, 0, none⟩) ∧ Tx wx o5 1 p n ed R j ∧ Row wx o5 la 42 4 (.slice ao l.length cap) l.length (elv l) ∧ Blk wx o5 5000000000013 px (.cells #[.int .i64 (F cx 200), .int .i64 u, .int .i64 v, .int .i64 ((F cy 21 : Int) - 10)] 42 (0, 0)) ∧ Step Pos w o0 wx o5)
            case first =>
              clear B1 k0 k1 k2 k3 k4 k5 kf
              go_wp2_with fail
              go_region_held3 (fun wx => wx.cell? ⟨po, 3, none⟩ = some (.int .i64 cx) ∧ wx.cell? ⟨po, 4, none⟩ = some (.int .i64 cy)) (first | (with_reducible exact ky) | go_keep) ((go_at_call 12; refine (HP.out _ _ _ (by simp)).mono ?_; rintro e w7 ⟨rfl, hw7⟩; subst hw7))
              all_goals
                have hwrap : IntKind.i64.wrap ((F cy 21 : Int) - 10) = (F cy 21 : Int) - 10 := by rw [IntKind.wrap_i64]; omega
                rw [hwrap]
                have n5 := (newStep (fun _ => False) w4 o4 5000000000013 (.cells #[.int .i64 (F cx 200), .int .i64 u, .int .i64 v, .int .i64 ((F cy 21 : Int) - 10)] 42)).drew
                have B5 : Blk (w4.alloc (.cells #[.int .i64 (F cx 200), .int .i64 u, .int .i64 v, .int .i64 ((F cy 21 : Int) - 10)] 42)).drew (newLab w4 o4 5000000000013) 5000000000013 w4.heap.size (.cells #[.int .i64 (F cx 200), .int .i64 u, .int .i64 v, .int .i64 ((F cy 21 : Int) - 10)] 42 (0, 0)) := Blk.step ⟨heap_alloc_new w4 _, newLab_new (Nat.le_refl _)⟩ (Step.refl (fun _ => False) _ _).drew id
                have T5 := T4.step n5 (fun _ _ => id)
                have r5 := r4.step n5 id
                have t5 := t4.trans n5.pos0
                clear T4 r4 t4 HP hwrap ky n5
                go_wp2
                go_meet
                exact ⟨_, _, rfl, T5, r5, B5, t5⟩
            case rest =>
            clear ky k0 k1 k2 k3 k4 k5 kf B1 T4 r4 t4 HP
            obtain ⟨px, o5, rfl, T5, r5, B5, t5⟩ := hcut
            generalize F cx 200 = xi at *
            generalize F cy 21 = xw at *
            have hlt4 : ∀ s ∈ pl l, s.1 < n ∧ s.2 < n := fun s hs => by
              obtain ⟨⟨i, x⟩, hm, rfl⟩ := List.mem_map.1 hs
              obtain ⟨_, q1, q2, _⟩ := T5.1.2.2.1 i x ((D3.tol i x).2 hm)
              exact ⟨q1, q2⟩
            have hpl : (pl l).length = l.length := by simp [pl]
            have hjn := joined_any _ o5 5000000000020 la n u _ (pl l) r5.vwp (by omega) hu hn2 (by omega) hlt4
            go_wp2_with fail
            refine hjn.mono ?_
            rintro e w6 ⟨g6, cap6, bb, o6, rfl, rb6, hL6, s6⟩
            have T6 := T5.step s6 (fun k hk z => TL.no (by omega) (z ▸ hk))
            have r6 := r5.step s6 (by omega)
            have B6 := B5.step s6 (by omega)
            have t6 := t5.trans (s6.mono fun k hk => by unfold Pos; omega)
            have hbv := joined_b T5.1.2.2.2 T5.1.2.2.1 hT4 D3 hu hL6 hv
            obtain ⟨gg, cc, ee, _, _, _, _, hcb, _⟩ := rb6.pos (by omega)
            simp only [Value.slice.injEq, Option.some.injEq, Addr.mk.injEq, and_true, true_and] at ee
            obtain ⟨rfl, rfl⟩ := ee
            have cb := (hcb v (by omega)).trans (boolsL_get bb hv)
            rw [hbv] at cb
            obtain ⟨⟨x0, x1, x2, x3⟩, _⟩ := B6.cell4
            have hid := id_any w6 o6 la _ l (xi : Nat) r6 (by omega)
            clear hjn T5 r5 t5 s6 hL6 B5 rb6 hcb hbv
            go_wp2_with fail
            refine hid.mono ?_
            rintro e w7 ⟨r, rfl, hr, hw7⟩
            obtain rfl := hw7
            clear hid
            rcases D3.id hr with ⟨k, hk, rfl, hxk, hek⟩ | ⟨rfl, hno⟩
            · as_aux_lemma =>
                have hxi : xi = l[k].1 := by omega
                have hlk := link_twice w7 o6 1 p n ed R j u v xi ((xw : Int) - 10) T6 hu hv (by omega) ⟨by omega, by omega⟩ (by rw [hxi, hek]; rfl)
                have dk : decide ((k : Int) < 0) = false := decide_eq_false (by omega)
                clear hr hxk hek hxi cb
                go_wp2_with fail
                refine hlk.mono ?_
                rintro e w8 ⟨rfl, T8, s8⟩
                have RR : StS w p n (j + 1) (.slice ao l.length cap) w8 := ⟨o6, ed, R, l, la, T8.mono (by omega), D3, by omega, hla, r6.step s8 hla2, t6.trans (s8.posT (by omega))⟩
                clear hlk T6 r6 t6 s8 T8 B6 x0 x1 x2 x3
                go_wp2
                go_roundg (121 - (j + 1))
                case measure => omega
                case rel => exact ⟨j + 1, by go_num, by omega, by omega, rfl, RR⟩
            · as_aux_lemma =>
                have hni := hno xi rfl
                clear hno hr
                by_cases hd : (R (2 * u + 1)).head? = (R (2 * v + 1)).head?
                · as_aux_lemma =>
                    have hlk := link_same w7 o6 1 p n ed R j u v xi ((xw : Int) - 10) T6 hu hv (by omega) ⟨by omega, by omega⟩ hd hni
                    rw [decide_eq_true hd] at cb
                    go_wp2_with fail
                    refine hlk.mono ?_
                    rintro e w8 ⟨rfl, T8, s8⟩
                    have RR : StS w p n (j + 1) (.slice ao l.length cap) w8 := ⟨o6, ed, R, l, la, T8.mono (by omega), D3, by omega, hla, r6.step s8 hla2, t6.trans (s8.posT (by omega))⟩
                    clear hlk T6 r6 t6 s8 T8 B6 x0 x1 x2 x3 cb
                    go_wp2
                    go_roundg (121 - (j + 1))
                    case measure => omega
                    case rel => exact ⟨j + 1, by go_num, by omega, by omega, rfl, RR⟩
                · as_aux_lemma =>
                    have hlk := link_in w7 o6 1 p n ed R j u v xi ((xw : Int) - 10) T6 hu hv (by omega) ⟨by omega, by omega⟩ hd hni (by omega)
                    rw [decide_eq_false hd] at cb
                    go_wp2_with fail
                    refine hlk.mono ?_
                    rintro e w8 ⟨rfl, o8, T8, s8⟩
                    have r8 := r6.step s8 hla2
                    have B8 := B6.step s8 (TL.no (by omega))
                    have t8 := t6.trans (s8.posT (by omega))
                    have L8 := D3.link hni ⟨u, v, (xw : Int) - 10⟩
                    clear x0 x1 x2 x3
                    obtain ⟨⟨x0, x1, x2, x3⟩, _⟩ := B8.cell4
                    clear hlk T6 r6 t6 s8 B6 B8 cb
                    go_wp2_with (first | (at_builtin; refine wpList_append_lab rfl (.tmp 163) (.tmp 165) 40 rfl 42 ie (.agg #[.int .i64 0, .int .i64 0, .int .i64 0, .int .i64 0]) 4 32 Try.underlying40 hie hze0 hze1 hze2 rfl (by decide) o8 la _ l.length (elv l) rfl (r8.step (allocStep (fun _ => False) _ o8 _) (by simp)) ⟨w8.heap.size, 0, none⟩ 1 1 [.int .i64 xi, .int .i64 u, .int .i64 v, .int .i64 ((xw : Int) - 10)] rfl rfl ?d1 ?d2 (by decide) ?d3 ?d4 ?_) | go_in)
                    case d1 => exact new_four_at rfl _ _ _ _ _
                    case d2 => intro u hu; simp at hu; rcases hu with rfl | rfl | rfl | rfl <;> rfl
                    case d3 => unfold maxLen; omega
                    case d4 => omega
                    intro g9 cap9 w9 o9 hr9 hs9
                    have s9 := (allocStep (fun k => k = la) w8 o8 _).trans hs9
                    have RR : StS w p n (j + 1) (.slice (some ⟨g9, 0, none⟩) (l.length + 1) cap9) w9 := by
                      refine ⟨o9, _, _, l ++ [(xi, ⟨u, v, (xw : Int) - 10⟩)], la, T8.step s9 (fun k hk x => hla2 (x ▸ hk)), L8, by simp; omega, hla, ?_, t8.trans (s9.mono fun k hk => by unfold Pos; omega)⟩
                      have e1 : elv (l ++ [(xi, (⟨u, v, (xw : Int) - 10⟩ : Ed))]) = elv l ++ [.int .i64 xi, .int .i64 u, .int .i64 v, .int .i64 ((xw : Int) - 10)] := by
                        rw [elv_snoc]; simp [ev]
                      have e2 : (l ++ [(xi, (⟨u, v, (xw : Int) - 10⟩ : Ed))]).length = l.length + 1 := by simp
                      rw [e1, e2]; exact hr9
                    clear hr9 hs9 s9 T8 t8 L8 r8 x0 x1 x2 x3
                    go_wp2
                    go_roundg (121 - (j + 1))
                    case measure => omega
                    case rel => exact ⟨j + 1, by go_num, by omega, by omega, rfl, RR⟩
      · have RR : StS w p n j _ wr := ⟨o3, ed, R, l, la, T3, D3, hll, hla, r3, t3⟩
        obtain ⟨ao, cap, rfl⟩ := r3.form
        clear T3 r3 t3
        by_cases hq : j < len1
        · have d1 : (j : Int) < (len1 : Int) := by omega
          have d2 : decide ((j : Int) < 120) = false := decide_eq_false (by omega)
          go_wp2
          go_meet
          exact ⟨j, hj2, RR⟩
        · have d1 : decide ((j : Int) < (len1 : Int)) = false := decide_eq_false (by omega)
          go_wp2
          go_meet
          exact ⟨j, hj2, RR⟩
  case rest =>
  as_aux_lemma =>
    obtain ⟨j, hj, o3, ed, R, l, la, T3, D3, hll, hla, r3, t3⟩ := hcut
    obtain ⟨ao, cap, rfl⟩ := r3.form
    have hT3 : Rt (liveN n ed) R := by obtain ⟨_, _, _, _, _, _, F⟩ := T3; exact F.rt
    have hA3 : EdOk n ed ∧ Alt n ed R := T3.1.2.2
    have hla2 : ¬ TL 1 la := TL.no (by omega)
    have hlt4 : ∀ s ∈ pl l, s.1 < n ∧ s.2 < n := fun s hs => by
      obtain ⟨⟨i, x⟩, hm, rfl⟩ := List.mem_map.1 hs
      obtain ⟨_, q1, q2, _⟩ := hA3.1 i x ((D3.tol i x).2 hm)
      exact ⟨q1, q2⟩
    have hpl : (pl l).length = l.length := by simp [pl]
    have START : EnS w p n j la ed R l (.slice ao l.length cap) _ := ⟨o3, T3, r3, t3⟩
    clear T3 r3 t3 ha1
    go_wp2
    go_loopg [25] n (fun gh vv wr => ∃ v : Nat, v ≤ n ∧ vv = .int .i64 (v : Nat) ∧ gh = n - v ∧ EnS w p n j la ed R l (.slice ao l.length cap) wr)
    case atStart => exact ⟨0, by omega, by go_num, by omega, START⟩
    case round =>
      clear START
      obtain ⟨v, hv, rfl, rfl, o4, T4, r4, t4⟩ := hrel
      by_cases hvn : v < n
      · have hvI : (v : Int) < (n : Int) := by omega
        have hjn := joined_any wr o4 5000000000020 la n v _ (pl l) r4.vwp (by omega) hvn hn2 (by omega) hlt4
        go_wp2_with fail
        refine hjn.mono ?_
        rintro e w5 ⟨g5, cap5, bb, o5, rfl, rb5, hL5, s5⟩
        have T5 := T4.step s5 (fun k hk z => TL.no (by omega) (z ▸ hk))
        have r5 := r4.step s5 (by omega)
        have t5 := t4.trans (s5.mono fun k hk => by unfold Pos; omega)
        have hbx : ∀ x, x < n → bb x = decide ((R (2 * v + 1)).head? = (R (2 * x + 1)).head?) := fun x hx => joined_b hA3.2 hA3.1 hT3 D3 hvn hL5 hx
        have hro := root_in w5 o5 1 p n ed R j v T5 hvn
        clear hjn T4 r4 t4 s5 hL5
        go_wp2_with fail
        refine hro.mono ?_
        rintro e w6 ⟨rr, rfl, hrr, T6, s6⟩
        have r6 := r5.step s6 hla2
        have rb6 := rb5.step s6 (TL.no (by omega))
        have t6 := t5.trans (s6.posT (by omega))
        obtain ⟨rn, hrh⟩ := hrr
        have hrI : (rr : Int) < (n : Int) := by omega
        have hroot : (R (2 * v + 1)).head? = (R (2 * rr + 1)).head? := by
          obtain ⟨x, hx, e1, e2⟩ := hA3.2.root hA3.1 hT3 hvn hrh
          have : rr = x := by omega
          subst this
          rw [hrh, e2]; rfl
        obtain ⟨gg, cc, ee, _, _, _, _, hcb, _⟩ := rb6.pos (by omega)
        simp only [Value.slice.injEq, Option.some.injEq, Addr.mk.injEq, and_true, true_and] at ee
        obtain ⟨rfl, rfl⟩ := ee
        have cb := (hcb rr (by omega)).trans (boolsL_get bb rn)
        rw [hbx rr rn, decide_eq_true hroot] at cb
        have START2 : EnB w p n j la ed R l (.slice ao l.length cap) g5 cap5 bb w6 := ⟨o5, T6, r6, rb6, t6⟩
        have drr : decide ((rr : Int) < 0) = false := decide_eq_false (by omega)
        have drn : decide (n ≤ rr) = false := decide_eq_false (by omega)
        have HBX : Hid (∀ x, x < n → bb x = decide ((R (2 * v + 1)).head? = (R (2 * x + 1)).head?)) := hbx
        have HRH : Hid ((R (2 * v + 1)).head? = some (2 * rr + 1)) := hrh
        clear hro T5 r5 rb5 t5 s6 T6 r6 t6 hcb rb6 hbx hroot hrh
        go_wp2
        clear drr drn hrI cb
        go_loopg [29] n (fun gh vu wx => ∃ x : Nat, x ≤ n ∧ vu = .int .i64 (x : Nat) ∧ gh = n - x ∧ EnB w p n j la ed R l (.slice ao l.length cap) g5 cap5 bb wx)
        case atStart => exact ⟨0, by omega, by go_num, by omega, START2⟩
        case round =>
          clear START2
          have hbx := HBX.out
          have hrh := HRH.out
          obtain ⟨x, hx, rfl, rfl, o7, T7, r7, rb7, t7⟩ := hrel
          obtain ⟨gg, cc, ee, _, hc1, hc2, _, hcb, _⟩ := rb7.pos (by omega)
          simp only [Value.slice.injEq, Option.some.injEq, Addr.mk.injEq, and_true, true_and] at ee
          obtain ⟨rfl, rfl⟩ := ee
          by_cases hxn : x < n
          · have hxI : (x : Int) < (n : Int) := by omega
            have hro := root_in _ o7 1 p n ed R j x T7 hxn
            go_wp2_with fail
            refine hro.mono ?_
            rintro e w8 ⟨ss, rfl, ⟨sn, hsh⟩, T8, s8⟩
            have r8 := r7.step s8 hla2
            have rb8 := rb7.step s8 (TL.no (by omega))
            have t8 := t7.trans (s8.posT (by omega))
            obtain ⟨gg, cc, ee, _, _, _, _, hcb8, _⟩ := rb8.pos (by omega)
            simp only [Value.slice.injEq, Option.some.injEq, Addr.mk.injEq, and_true, true_and] at ee
            obtain ⟨rfl, rfl⟩ := ee
            have cx := (hcb8 x (by omega)).trans (boolsL_get bb hxn)
            rw [hbx x hxn] at cx
            clear hbx HBX HRH
            have RR : EnB w p n j la ed R l (.slice ao l.length cap) g5 cap5 bb w8 := ⟨o7, T8, r8, rb8, t8⟩
            clear hro T7 r7 rb7 t7 s8 T8 r8 rb8 t8 hcb hcb8
            by_cases hd : (R (2 * v + 1)).head? = (R (2 * x + 1)).head?
            · obtain rfl : ss = rr := by
                have := hsh.symm.trans (hd.symm.trans hrh)
                simp at this; omega
              rw [decide_eq_true hd] at cx
              clear hrh hsh hd
              go_wp2
              go_roundg (n - (x + 1))
              case measure => omega
              case rel => exact ⟨x + 1, by omega, by go_num, rfl, RR⟩
            · have hsr : ((ss : Int) == (rr : Int)) = false := by
                simp only [beq_eq_false_iff_ne, ne_eq]
                intro z
                have z : ss = rr := by omega
                subst z
                exact hd (hrh.trans hsh.symm)
              rw [decide_eq_false hd] at cx
              clear hrh hsh hd
              go_wp2
              go_roundg (n - (x + 1))
              case measure => omega
              case rel => exact ⟨x + 1, by omega, by go_num, rfl, RR⟩
          · have hun : n - 1 - v < n := by omega
            have cx := (hcb (n - 1 - v) (by omega)).trans (boolsL_get bb hun)
            rw [hbx _ hun] at cx
            have b2 : (n : Int) - 1 - (v : Int) = ((n - 1 - v : Nat) : Int) := by omega
            have b3 : ((n - 1 - v : Nat) : Int) < (n : Int) := by omega
            have dx : decide ((x : Int) < (n : Int)) = false := decide_eq_false (by omega)
            clear hcb
            by_cases hd : (R (2 * v + 1)).head? = (R (2 * (n - 1 - v) + 1)).head?
            · rw [decide_eq_true hd] at cx
              have hbt := between_any _ o7 p n j la ed R l _ v (n - 1 - v) T7 r7 ⟨hla2, by omega⟩ D3.tol (by omega) hvn hun hd
              generalize n - 1 - v = uu at *
              clear T7 r7 rb7
              go_wp2_with fail
              refine hbt.mono ?_
              rintro e w8 ⟨rfl, o8, T8, r8, s8⟩
              have RR : EnS w p n j la ed R l (.slice ao l.length cap) w8 := ⟨o8, T8, r8, t7.trans (s8.mono fun k hk => hk.elim (fun h => by unfold Pos; have := h.1; omega) (fun h => by unfold Pos; omega))⟩
              clear hbt T8 r8 s8 cx
              go_wp2
              go_roundg (n - (v + 1))
              case measure => omega
              case rel => exact ⟨v + 1, by omega, by go_num, rfl, RR⟩
            · rw [decide_eq_false hd] at cx
              have RR : EnS w p n j la ed R l (.slice ao l.length cap) _ := ⟨o7, T7, r7, t7⟩
              generalize n - 1 - v = uu at *
              clear T7 r7 rb7
              go_wp2
              go_roundg (n - (v + 1))
              case measure => omega
              case rel => exact ⟨v + 1, by omega, by go_num, rfl, RR⟩
      · have RR : Below w.heap.size w wr := t4.old
        clear T4 r4 t4
        have dv : decide ((v : Int) < (n : Int)) = false := decide_eq_false (by omega)
        go_wp2
        go_ret
        exact ⟨rfl, RR⟩

end Go.Proofs.Ytddjaldamfileaa
