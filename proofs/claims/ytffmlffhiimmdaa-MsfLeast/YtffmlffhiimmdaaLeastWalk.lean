/- The walk of the law MsfLeast. -/
import Derived.Test.YtffmlffhiimmdaaLeastM
namespace Go.Proofs.Ytffmlffhiimmdaa
open Go.ChangeShapes Go.WideShapes Go.ChangeAt Go.RowKit
set_option linter.unusedVariables false

theorem new_four_at {w : World} {s : Nat} (hs : w.heap.size = s) (x y z u : Value) (t : TypeId) : ∀ j v, [x, y, z, u][j]? = some v → (w.alloc (.cells #[x, y, z, u] t)).cell? ((⟨s, 0, none⟩ : Addr).add j) = some v := by
  subst hs
  intro j v hj
  match j, hj with
  | 0, hj => simp at hj; subst hj; simp [Addr.add]
  | 1, hj => simp at hj; subst hj; simp [Addr.add]
  | 2, hj => simp at hj; subst hj; simp [Addr.add]
  | 3, hj => simp at hj; subst hj; simp [Addr.add]

/-- The forest and the list behind so many edges. -/
def LsS (w : World) (p n : Nat) (f : Nat → EdT) (k : Nat) (vl : Value) (wr : World) : Prop :=
  ∃ o' ed m c l, Mx wr o' 1 p n (fD f n 1 0 k) ed m c ∧ m ≤ k ∧ c ≤ k ∧ Tl (fun _ => True) (fD f n 1 0 k) l ∧ l.length ≤ k ∧ Row wr o' 20000000000001 43 4 vl l.length (elv l) ∧ Step Pos w o0 wr o'

/-- The list, the bottleneck and the lighter ones so far. -/
def LqS (w : World) (px t : Nat) (y : Ed) (l : List (Nat × Ed)) (j : Nat) (vl vs : Value) (inb : Bool) (wr : World) : Prop :=
  ∃ o', Row wr o' 20000000000001 43 4 vl l.length (elv l) ∧ Blk wr o' 20000000000005 px (.cells #[.int .i64 (t : Nat), .int .i64 (y.u : Nat), .int .i64 (y.v : Nat), .int .i64 y.w] 43 (0, 0)) ∧ Row wr o' 20000000000007 43 4 vs (lessL t y.w (l.take j)).length (elv (lessL t y.w (l.take j))) ∧ (inb = true ↔ (t, y) ∈ l.take j) ∧ Step Pos w o0 wr o'

set_option maxRecDepth 100000 in
set_option maxHeartbeats 16000000 in
theorem least_walk (w : World) (c0 c2 c3 : Int) (a1 : Option Addr) (len1 cap1 : Nat) (f : Nat → EdT) (ha1 : ArgE w o0 a1 len1 f) (h1 : len1 ≤ 9223372036854775807) (hc0 : -9223372036854775808 ≤ c0 ∧ c0 ≤ 9223372036854775807) (hc2 : -9223372036854775808 ≤ c2 ∧ c2 ≤ 9223372036854775807) (hc3 : -9223372036854775808 ≤ c3 ∧ c3 ≤ 9223372036854775807) :
    Calls Try.prog 5 #[.int .i64 c0, .slice a1 len1 cap1, .int .i64 c2, .int .i64 c3] w fun e w' => e = .returned (.bool true) ∧ Below w.heap.size w w' := by
  have npos : ¬ Pos 0 := by unfold Pos; omega
  obtain ⟨ie, hie, hze0, hze1, hze2⟩ := info_parts infoEdge
  go_enter Try.func5, Try.ntmps5
  go_wp2_with fail
  refine (awake7 w).mono ?_
  rintro e w1 ⟨rfl, hb1⟩
  have t1 : Step Pos w o0 w1 o0 := Step.ofBelow o0 hb1
  clear hb1
  go_wp2_with fail
  refine (pick_any c0 63 w1 hc0.1 hc0.2 (by omega) (by omega)).mono ?_
  rintro e w2 ⟨n0, hn0, rfl, hw2⟩
  obtain rfl : w1 = w2 := hw2.symm
  obtain ⟨n, hn⟩ : ∃ n, n = n0 + 2 := ⟨_, rfl⟩
  have HN : Hid (2 + (n0 : Int) = (n : Int)) := by show _ = _; omega
  have hn1 : 2 ≤ n := by omega
  have hn2 : n ≤ 64 := by omega
  clear hn
  go_wp2_with fail
  rw [HN.out]
  clear HN hn0
  refine (new7 w1 o0 1 n (by omega) hn2).mono ?_
  rintro e w2 ⟨p, o2, rfl, X2, s2⟩
  have START : LsS w p n f 0 (.slice none 0 0) w2 := ⟨o2, _, 0, 0, [], by rw [fD_new]; exact X2, by omega, by omega, tl_new f n, by simp, Row.nil _ _ _ _ _, t1.trans (s2.posM (by omega))⟩
  clear X2 s2 t1
  go_upto_block 0 with fail
  go_cut [12] (fun vl wx => LsS w p n f (min len1 150) vl wx)
  case first =>
    go_wp2_with fail
    go_loopg [12, 13] 151 (fun gh vl iv wr => ∃ k : Nat, iv = .int .i64 (k : Nat) ∧ k ≤ len1 ∧ k ≤ 150 ∧ gh = 151 - k ∧ LsS w p n f k vl wr)
    case atStart => exact ⟨0, by go_num, by omega, by omega, by omega, START⟩
    case round =>
      clear START
      obtain ⟨k, rfl, hk1, hk2, rfl, o3, ed, m, c, l, X3, hm, hc, T3, hll, r3, t3⟩ := hrel
      by_cases hlt : k < len1 ∧ k < 150
      · obtain ⟨b, off, rfl, hbl, hob, ⟨k0, k1, k2, k3⟩, ⟨i01, i02⟩, ⟨iu1, iu2⟩, ⟨iv1, iv2⟩, ⟨iw1, iw2⟩⟩ := ha1.step t3 npos k hlt.1
        have hkI : (k : Int) < (len1 : Int) := by omega
        have hk150 : (k : Int) < 150 := by omega
        obtain ⟨ao, cap, rfl⟩ := r3.form
        obtain ⟨F, hF⟩ : ∃ F : Int → Int → Nat, ∀ c (m : Nat), F c (m : Int) = pkN c m := ⟨fun c m => pkN c m.toNat, fun c m => by simp⟩
        have HP : Hid (∀ (c m : Int) (wx : World), (c = (f k).u ∧ m = (n : Int) ∨ c = (f k).v ∧ m = (n : Int) ∨ c = (f k).wt ∧ m = 41) → Calls Try.prog 14 #[.int .i64 c, .int .i64 m] wx fun e w' => e = .returned (.int .i64 (F c m)) ∧ w' = wx) := fun c m wx h => by
          rcases h with ⟨rfl, rfl⟩ | ⟨rfl, rfl⟩ | ⟨rfl, rfl⟩
          · rw [hF]; exact pick_is _ n wx iu1 iu2 (by omega) (by omega)
          · rw [hF]; exact pick_is _ n wx iv1 iv2 (by omega) (by omega)
          · rw [show (41 : Int) = ((41 : Nat) : Int) from rfl, hF]; exact pick_is _ 41 wx iw1 iw2 (by omega) (by omega)
        have hw41 : pkN (f k).wt 41 < 41 := pkN_lt _ _ (by omega)
        have hpu : pkN (f k).u n < n := pkN_lt _ _ (by omega)
        have hpv : pkN (f k).v n < n := pkN_lt _ _ (by omega)
        have HF : Hid (F (f k).u n = pkN (f k).u n ∧ F (f k).v n = pkN (f k).v n ∧ F (f k).wt 41 = pkN (f k).wt 41) := ⟨hF _ n, hF _ n, hF _ 41⟩
        have ky : wr.cell? ⟨b, off + k * 4 + 1, none⟩ = some (.int .i64 (f k).u) ∧ wr.cell? ⟨b, off + k * 4 + 2, none⟩ = some (.int .i64 (f k).v) ∧ wr.cell? ⟨b, off + k * 4 + 3, none⟩ = some (.int .i64 (f k).wt) := ⟨k1, k2, k3⟩
        clear hF ha1 k0 k1 k2 k3
        go_upto_region 10 with fail
        go_cut [14] (fun xv wx => ∃ px o5, xv = .pointer (some ⟨px, 0, none⟩) ∧ Mx wx o5 1 p n (fD f n 1 0 k) ed m c ∧ Row wx o5 20000000000001 43 4 (.slice ao l.length cap) l.length (elv l) ∧ Blk wx o5 20000000000003 px (.cells #[.int .i64 (k : Nat), .int .i64 (pkN (f k).u n : Nat), .int .i64 (pkN (f k).v n : Nat), .int .i64 ((pkN (f k).wt 41 : Int) - 20)] 43 (0, 0)) ∧ Step Pos w o0 wx o5)
        case first =>
          go_wp2_with fail
          go_region_held3 (fun wx => wx.cell? ⟨b, off + k * 4 + 1, none⟩ = some (.int .i64 (f k).u) ∧ wx.cell? ⟨b, off + k * 4 + 2, none⟩ = some (.int .i64 (f k).v) ∧ wx.cell? ⟨b, off + k * 4 + 3, none⟩ = some (.int .i64 (f k).wt)) (first | (with_reducible exact ky) | go_keep) ((go_at_call 14; refine (HP.out _ _ _ (by simp)).mono ?_; rintro e w7 ⟨rfl, hw7⟩; subst hw7))
          all_goals
            have hf41 := HF.out.2.2
            have hwrap : IntKind.i64.wrap ((F (f k).wt 41 : Int) - 20) = (pkN (f k).wt 41 : Int) - 20 := by rw [hf41, IntKind.wrap_i64]; omega
            rw [hwrap, HF.out.1, HF.out.2.1]
            have n5 := (newStep (fun _ => False) wr o3 20000000000003 (.cells #[.int .i64 (k : Nat), .int .i64 (pkN (f k).u n : Nat), .int .i64 (pkN (f k).v n : Nat), .int .i64 ((pkN (f k).wt 41 : Int) - 20)] 43)).drew
            have B5 : Blk (wr.alloc (.cells #[.int .i64 (k : Nat), .int .i64 (pkN (f k).u n : Nat), .int .i64 (pkN (f k).v n : Nat), .int .i64 ((pkN (f k).wt 41 : Int) - 20)] 43)).drew (newLab wr o3 20000000000003) 20000000000003 wr.heap.size (.cells #[.int .i64 (k : Nat), .int .i64 (pkN (f k).u n : Nat), .int .i64 (pkN (f k).v n : Nat), .int .i64 ((pkN (f k).wt 41 : Int) - 20)] 43 (0, 0)) := Blk.step ⟨heap_alloc_new wr _, newLab_new (Nat.le_refl _)⟩ (Step.refl (fun _ => False) _ _).drew id
            have X5 := X3.step n5 (fun _ _ => id)
            have r5 := r3.step n5 id
            have t5 := t3.trans n5.pos0
            clear X3 r3 t3 HP HF hwrap hf41 ky n5
            go_wp2
            go_meet
            exact ⟨_, _, rfl, X5, r5, B5, t5⟩
        case rest =>
        clear ky HP HF X3 r3 t3
        obtain ⟨px, o5, rfl, X5, r5, B5, t5⟩ := hcut
        obtain ⟨⟨x0, x1, x2, x3⟩, _⟩ := B5.cell4
        have hl20 : ¬ ML 1 20000000000001 := fun h => by have := h.2; omega
        have hl23 : ¬ ML 1 20000000000003 := fun h => by have := h.2; omega
        have TN : Hid (pkN (f k).u n ≠ pkN (f k).v n → Tl (fun _ => True) (fD f n 1 0 (k + 1)) (l ++ [(k, ⟨pkN (f k).u n, pkN (f k).v n, (pkN (f k).wt 41 : Int) - 20⟩)]) ∧ fD f n 1 0 (k + 1) = upd (fD f n 1 0 k) k (some ⟨pkN (f k).u n, pkN (f k).v n, (pkN (f k).wt 41 : Int) - 20⟩)) := fun h => ⟨tl_next f n k T3 h, by rw [fD_next f n 1 0 k h, fEd_one]⟩
        have TE : Hid (pkN (f k).u n = pkN (f k).v n → Tl (fun _ => True) (fD f n 1 0 (k + 1)) l ∧ fD f n 1 0 (k + 1) = fD f n 1 0 k) := fun h => ⟨tl_loop f n k T3 h, fD_loop f n 1 0 k h⟩
        have hfk := fD_at f n 1 0 k
        generalize pkN (f k).u n = pu at *
        generalize pkN (f k).v n = pv at *
        generalize pkN (f k).wt 41 = pw at *
        obtain ⟨D1, eK'⟩ : ∃ D1, fD f n 1 0 (k + 1) = D1 := ⟨_, rfl⟩
        have EK : Hid (fD f n 1 0 (k + 1) = D1) := eK'
        rw [eK'] at TN TE
        clear eK'
        generalize fD f n 1 0 k = D0 at *
        clear T3
        by_cases huv : pu = pv
        · subst huv
          have hin := insert_loop wc o5 1 p n D0 ed m c k pu ((pw : Int) - 20) X5 hpu (by omega) (by omega) hfk
          obtain ⟨T5, eD⟩ := TE.out rfl
          clear TE TN
          go_wp2_with fail
          refine hin.mono ?_
          rintro e w6 ⟨rfl, X6, s6⟩
          have RR : LsS w p n f (k + 1) (.slice ao l.length cap) w6 := ⟨o5, ed, m, c, l, by rw [EK.out, eD]; exact X6, by omega, by omega, by rw [EK.out]; exact T5, by omega, r5.step s6 id, t5.trans s6.pos0⟩
          clear hin X5 r5 B5 t5 s6 X6 x0 x1 x2 x3 T5 eD
          go_wp2
          go_roundg (151 - (k + 1))
          case measure => omega
          case rel => exact ⟨k + 1, by go_num, by omega, by omega, rfl, RR⟩
        · have hin := insert_ok wc o5 1 p n D0 ed m c k pu pv ((pw : Int) - 20) X5 hpu hpv huv (by omega) (by omega) hfk (by omega) (by omega)
          obtain ⟨T5, hDn⟩ := TN.out huv
          have HDN : Hid (D1 = upd D0 k (some ⟨pu, pv, (pw : Int) - 20⟩)) := hDn
          clear TE TN hDn
          go_wp2_with fail
          refine hin.mono ?_
          rintro e w6 ⟨rfl, o6, ed6, X6, s6⟩
          rw [← HDN.out] at X6
          have r6 := r5.step s6 hl20
          have B6 := B5.step s6 hl23
          have t6 := t5.trans (s6.posM (by omega))
          clear x0 x1 x2 x3
          obtain ⟨⟨x0, x1, x2, x3⟩, _⟩ := B6.cell4
          clear hin X5 r5 B5 t5 s6 B6 HDN
          go_wp2_with (first | (at_builtin; refine wpList_append_lab rfl (.tmp 85) (.tmp 87) 40 rfl 43 ie (.agg #[.int .i64 0, .int .i64 0, .int .i64 0, .int .i64 0]) 4 32 Try.underlying40 hie hze0 hze1 hze2 rfl (by decide) o6 20000000000001 _ l.length (elv l) rfl (r6.step (allocStep (fun _ => False) _ o6 _) (by simp)) ⟨w6.heap.size, 0, none⟩ 1 1 [.int .i64 (k : Nat), .int .i64 (pu : Nat), .int .i64 (pv : Nat), .int .i64 ((pw : Int) - 20)] rfl rfl ?d1 ?d2 (by decide) ?d3 ?d4 ?_) | go_in)
          case d1 => exact new_four_at rfl _ _ _ _ _
          case d2 => intro u hu; simp at hu; rcases hu with rfl | rfl | rfl | rfl <;> rfl
          case d3 => unfold maxLen; omega
          case d4 => omega
          intro g9 cap9 w9 o9 hr9 hs9
          have s9 := (allocStep (fun k => k = 20000000000001) w6 o6 _).trans hs9
          have RR : LsS w p n f (k + 1) (.slice (some ⟨g9, 0, none⟩) (l.length + 1) cap9) w9 := by
            refine ⟨o9, _, m + 1, c + 1, l ++ [(k, ⟨pu, pv, (pw : Int) - 20⟩)], by rw [EK.out]; exact X6.step s9 (fun k hk x => hl20 (x ▸ hk)), by omega, by omega, by rw [EK.out]; exact T5, by simp; omega, ?_, t6.trans (s9.mono fun k hk => by unfold Pos; omega)⟩
            have e1 : elv (l ++ [(k, (⟨pu, pv, (pw : Int) - 20⟩ : Ed))]) = elv l ++ [.int .i64 (k : Nat), .int .i64 (pu : Nat), .int .i64 (pv : Nat), .int .i64 ((pw : Int) - 20)] := by
              rw [elv_snoc]; simp [ev]
            have e2 : (l ++ [(k, (⟨pu, pv, (pw : Int) - 20⟩ : Ed))]).length = l.length + 1 := by simp
            rw [e1, e2]; exact hr9
          clear hr9 hs9 s9 X6 t6 T5 r6 x0 x1 x2 x3
          go_wp2
          go_roundg (151 - (k + 1))
          case measure => omega
          case rel => exact ⟨k + 1, by go_num, by omega, by omega, rfl, RR⟩
      · have RR : LsS w p n f k _ wr := ⟨o3, ed, m, c, l, X3, hm, hc, T3, hll, r3, t3⟩
        obtain ⟨ao, cap, rfl⟩ := r3.form
        have hmin : min len1 150 = k := by omega
        rw [← hmin] at RR
        clear X3 r3 t3 T3 ha1
        by_cases hq : k < len1
        · have d1 : (k : Int) < (len1 : Int) := by omega
          have d2 : decide ((k : Int) < 150) = false := decide_eq_false (by omega)
          go_wp2
          go_meet
          exact RR
        · have d1 : decide ((k : Int) < (len1 : Int)) = false := decide_eq_false (by omega)
          go_wp2
          go_meet
          exact RR
  case rest =>
  obtain ⟨o3, ed, m, c, l, X3, hm, hc, T3, hll, r3, t3⟩ := hcut
  have hl150 : l.length ≤ 150 := by omega
  have hok := X3.1.2
  generalize fD f n 1 0 (min len1 150) = D at X3 T3 hok
  clear START hm hc hll ha1
  have hl20 : ¬ ML 1 20000000000001 := fun h => by have := h.2; omega
  have hpl : (pl l).length = l.length := by simp [pl]
  have hplt := T3.pl_lt hok
  obtain ⟨ao, cap, rfl⟩ := r3.form
  go_wp2_with fail
  refine (pick_any c2 n wc hc2.1 hc2.2 (by omega) (by omega)).mono ?_
  rintro e w4 ⟨u, hu, rfl, hw4⟩
  obtain rfl : wc = w4 := hw4.symm
  go_wp2_with fail
  refine (pick_any c3 n wc hc3.1 hc3.2 (by omega) (by omega)).mono ?_
  rintro e w4 ⟨v, hv, rfl, hw4⟩
  obtain rfl : wc = w4 := hw4.symm
  have huI : (u : Int) < (n : Int) := by omega
  have hvI : (v : Int) < (n : Int) := by omega
  by_cases hd : u ≠ v ∧ Cn (fun _ => True) D u v
  · have hb1 := bottle_ok wc o3 1 p n D ed m c u v X3 hu hv hd.1 hd.2
    clear X3
    go_wp2_with fail
    refine hb1.mono ?_
    rintro e w5 ⟨t, ⟨yu, yv, yw⟩, rfl, ⟨hty, hbn⟩, o5, X5, s5⟩
    simp only
    have n5 := newStep (fun _ => False) w5 o5 20000000000005 (.cells #[.int .i64 (t : Nat), .int .i64 (yu : Nat), .int .i64 (yv : Nat), .int .i64 yw] 43)
    have B5 : Blk (w5.alloc (.cells #[.int .i64 (t : Nat), .int .i64 (yu : Nat), .int .i64 (yv : Nat), .int .i64 yw] 43)) (newLab w5 o5 20000000000005) 20000000000005 w5.heap.size (.cells #[.int .i64 (t : Nat), .int .i64 (yu : Nat), .int .i64 (yv : Nat), .int .i64 yw] 43 (0, 0)) := ⟨heap_alloc_new w5 _, newLab_new (Nat.le_refl _)⟩
    have r6 := (r3.step s5 hl20).step n5 id
    have t6 := (t3.trans (s5.posM (by omega))).trans n5.pos0
    generalize newLab w5 o5 20000000000005 = o6 at n5 B5 r6 t6
    have hpt := parts_in (w5.alloc (.cells #[.int .i64 (t : Nat), .int .i64 (yu : Nat), .int .i64 (yv : Nat), .int .i64 yw] 43)) o6 20000000000006 20000000000001 n _ (pl l) r6.vwp (by omega) (by omega) hn2 (by omega) hplt
    obtain ⟨px, hpx⟩ : ∃ px, px = w5.heap.size := ⟨_, rfl⟩
    have HPX : Hid (px = w5.heap.size) := hpx
    rw [← hpx] at B5
    clear hb1 X5 s5 n5 r3 t3 hpx
    go_wp2_with fail
    rw [← HPX.out]
    refine hpt.mono ?_
    rintro e w7 ⟨g7, b7, o7, rfl, rw7, hiff, s7⟩
    have B7 := B5.step s7 (by omega)
    have r7 := r6.step s7 (by omega)
    have t7 := t6.trans (s7.mono (J := Pos) fun k hk => by unfold Pos; omega)
    obtain ⟨gg, cc, ee, _, _, _, _, hcb, _⟩ := rw7.pos (by omega)
    simp only [Value.slice.injEq, Option.some.injEq, Addr.mk.injEq, and_true, true_and] at ee
    obtain ⟨rfl, rfl⟩ := ee
    have cu := (hcb u (by omega)).trans (natsF_get b7 hu)
    have cv := (hcb v (by omega)).trans (natsF_get b7 hv)
    rw [(hiff u v hu hv).2 ((T3.cn).2 hd.2)] at cu
    have d1 : ((u : Int) == (v : Int)) = false := by simp only [beq_eq_false_iff_ne, ne_eq]; have := hd.1; omega
    have START : ∀ j, LqS w px t ⟨yu, yv, yw⟩ l 0 (.slice ao l.length cap) (.slice none 0 0) false (w7.drewN j) := fun j => ⟨o7, r7.step ((Step.refl (fun _ => False) _ _).drewN j) id, B7.step ((Step.refl (fun _ => False) _ _).drewN j) id, (Row.nil _ _ _ _ _ : Row _ _ _ _ _ _ 0 []), by simp, t7.trans ((Step.refl (fun _ => False) _ _).drewN j).pos0⟩
    generalize b7 v = bv at *
    clear hpt B5 r6 t6 rw7 hiff s7 B7 t7 hcb r7 HPX
    go_wp2
    go_quiet (fail)
    go_wp2
    go_loopg [18, 19, 20] l.length (fun gh vs vin vi wr => ∃ (j : Nat) (inb : Bool), vi = .int .i64 (j : Nat) ∧ vin = .bool inb ∧ j ≤ l.length ∧ gh = l.length - j ∧ LqS w px t ⟨yu, yv, yw⟩ l j (.slice ao l.length cap) vs inb wr)
    case atStart => exact ⟨0, false, by go_num, rfl, by omega, by omega, START _⟩
    case round =>
      clear START
      obtain ⟨j, inb, rfl, rfl, hj, rfl, o8, r8, B8, ls8, hin, t8⟩ := hrel
      obtain ⟨asl, caps, rfl⟩ := ls8.form
      by_cases hjl : j < l.length
      · have hjI : (j : Int) < (l.length : Int) := by omega
        obtain ⟨g, cap', hvv, q1, q2, q3, q4, q5, q6⟩ := r8.pos (by omega)
        simp only [Value.slice.injEq, true_and] at hvv
        obtain ⟨rfl, rfl⟩ := hvv
        unfold maxLen at q3
        have c0 := (q5 (j * 4) (by omega)).trans (elv_get l j 0 hjl (by omega))
        have c1 := (q5 (j * 4 + 1) (by omega)).trans (elv_get l j 1 hjl (by omega))
        have c2' := (q5 (j * 4 + 2) (by omega)).trans (elv_get l j 2 hjl (by omega))
        have c3' := (q5 (j * 4 + 3) (by omega)).trans (elv_get l j 3 hjl (by omega))
        have et : l.take (j + 1) = l.take j ++ [l[j]] := List.take_succ_eq_append_getElem hjl
        have hmem := List.getElem_mem hjl
        have hDl := ((T3 l[j].1 l[j].2).1 hmem).1
        have hlen : (lessL t yw (l.take j)).length ≤ 150 := by
          have := List.length_filter_le (fun s : Nat × Ed => decide (s.2.w < yw ∨ (yw = s.2.w ∧ (s.1 : Int) < (t : Int)))) (l.take j)
          rw [List.length_take] at this
          unfold lessL; omega
        obtain ⟨⟨li, ⟨lu, lv, lw⟩⟩, hlj⟩ : ∃ s, s = l[j] := ⟨_, rfl⟩
        rw [← hlj] at c0 c1 c2' c3' et hmem hDl
        simp only [ev, List.getElem?_cons_zero, List.getElem?_cons_succ] at c0 c1 c2' c3' hDl
        have hsn := lessL_snoc t yw (l.take j) (li, ⟨lu, lv, lw⟩)
        rw [← et] at hsn
        simp only at hsn
        have HIN : Hid (((inb = true ∨ (li = t)) ↔ (t, (⟨yu, yv, yw⟩ : Ed)) ∈ l.take (j + 1)) ∧ (li = t → lu = yu ∧ lv = yv ∧ lw = yw)) := by
          have he : li = t → (⟨lu, lv, lw⟩ : Ed) = ⟨yu, yv, yw⟩ := fun e => by rw [e, hty] at hDl; injection hDl with hDl; exact hDl.symm
          refine ⟨?_, fun e => by have := he e; simp at this; exact this⟩
          rw [et, List.mem_append, hin]
          constructor
          · rintro (q | q)
            · exact .inl q
            · exact .inr (by have := he q; subst q; rw [this]; simp)
          · rintro (q | q)
            · exact .inl q
            · simp at q; exact .inr q.1.symm
        obtain ⟨⟨y0, y1, y2, y3⟩, yf⟩ := B8.cell4
        simp only at y1 y2 y3
        have sd : Step (fun _ => False) wr o8 wr.drew o8 := (Step.refl _ _ _).drew
        have hhv := heavier_law7 wr.drew o8 (t : Nat) (yu : Nat) (yv : Nat) yw (li : Nat) (lu : Nat) (lv : Nat) lw
        have ky : (wr.cell? ⟨px, 0, none⟩ = some (.int .i64 (t : Nat)) ∧ wr.cell? ⟨px, 1, none⟩ = some (.int .i64 (yu : Nat)) ∧ wr.cell? ⟨px, 2, none⟩ = some (.int .i64 (yv : Nat)) ∧ wr.cell? ⟨px, 3, none⟩ = some (.int .i64 yw)) ∧ wr.cell? ⟨g, j * 4, none⟩ = some (.int .i64 (li : Nat)) ∧ wr.cell? ⟨g, j * 4 + 1, none⟩ = some (.int .i64 (lu : Nat)) ∧ wr.cell? ⟨g, j * 4 + 2, none⟩ = some (.int .i64 (lv : Nat)) ∧ wr.cell? ⟨g, j * 4 + 3, none⟩ = some (.int .i64 lw) := ⟨⟨y0, y1, y2, y3⟩, c0, c1, c2', c3'⟩
        have HK : Hid (∀ wx, Step (fun _ => False) wr.drew o8 wx o8 → ((wx.cell? ⟨px, 0, none⟩ = some (.int .i64 (t : Nat)) ∧ wx.cell? ⟨px, 1, none⟩ = some (.int .i64 (yu : Nat)) ∧ wx.cell? ⟨px, 2, none⟩ = some (.int .i64 (yv : Nat)) ∧ wx.cell? ⟨px, 3, none⟩ = some (.int .i64 yw)) ∧ wx.cell? ⟨g, j * 4, none⟩ = some (.int .i64 (li : Nat)) ∧ wx.cell? ⟨g, j * 4 + 1, none⟩ = some (.int .i64 (lu : Nat)) ∧ wx.cell? ⟨g, j * 4 + 2, none⟩ = some (.int .i64 (lv : Nat)) ∧ wx.cell? ⟨g, j * 4 + 3, none⟩ = some (.int .i64 lw))) := fun wx s => by
          have h1 := fun i => (sd.trans s).cell B8.lt (fun h => h) i
          have h2 := fun i => (sd.trans s).cell q4 (fun h => h) i
          exact ⟨⟨(h1 _).trans y0, (h1 _).trans y1, (h1 _).trans y2, (h1 _).trans y3⟩, (h2 _).trans c0, (h2 _).trans c1, (h2 _).trans c2', (h2 _).trans c3'⟩
        have HK2 : Hid (∀ wx ox, Step (fun k => k = 20000000000007) wr.drew o8 wx ox → ((wx.cell? ⟨px, 0, none⟩ = some (.int .i64 (t : Nat)) ∧ wx.cell? ⟨px, 1, none⟩ = some (.int .i64 (yu : Nat)) ∧ wx.cell? ⟨px, 2, none⟩ = some (.int .i64 (yv : Nat)) ∧ wx.cell? ⟨px, 3, none⟩ = some (.int .i64 yw)) ∧ wx.cell? ⟨g, j * 4, none⟩ = some (.int .i64 (li : Nat)) ∧ wx.cell? ⟨g, j * 4 + 1, none⟩ = some (.int .i64 (lu : Nat)) ∧ wx.cell? ⟨g, j * 4 + 2, none⟩ = some (.int .i64 (lv : Nat)) ∧ wx.cell? ⟨g, j * 4 + 3, none⟩ = some (.int .i64 lw))) := fun wx ox s => by
          have h1 := fun i => s.cell (show px < wr.drew.heap.size from B8.lt) (by rw [B8.2]; omega) i
          have h2 := fun i => s.cell (show g < wr.drew.heap.size from q4) (by rw [q1]; omega) i
          exact ⟨⟨(h1 _).trans y0, (h1 _).trans y1, (h1 _).trans y2, (h1 _).trans y3⟩, (h2 _).trans c0, (h2 _).trans c1, (h2 _).trans c2', (h2 _).trans c3'⟩
        clear c0 c1 c2' c3' y0 y1 y2 y3 yf q5 q6 hlj hmem hDl et hin
        by_cases hov : lw < yw ∨ (yw = lw ∧ (li : Int) < (t : Int))
        · rw [decide_eq_true hov] at hhv
          rw [if_pos hov] at hsn
          go_wp2_with fail
          go_region_held3 (fun wx => (wx.cell? ⟨px, 0, none⟩ = some (.int .i64 (t : Nat)) ∧ wx.cell? ⟨px, 1, none⟩ = some (.int .i64 (yu : Nat)) ∧ wx.cell? ⟨px, 2, none⟩ = some (.int .i64 (yv : Nat)) ∧ wx.cell? ⟨px, 3, none⟩ = some (.int .i64 yw)) ∧ wx.cell? ⟨g, j * 4, none⟩ = some (.int .i64 (li : Nat)) ∧ wx.cell? ⟨g, j * 4 + 1, none⟩ = some (.int .i64 (lu : Nat)) ∧ wx.cell? ⟨g, j * 4 + 2, none⟩ = some (.int .i64 (lv : Nat)) ∧ wx.cell? ⟨g, j * 4 + 3, none⟩ = some (.int .i64 lw)) (first | (with_reducible exact ky) | (with_reducible exact kz) | go_keep) ((go_at_call 23; refine hhv.mono ?_; rintro e w9 ⟨rfl, s9⟩; have kz := HK.out _ s9))
          have ls9 := (ls8.step sd id).step s9 id
          clear kz
          obtain ⟨⟨y0, y1, y2, y3⟩, c0, c1, c2', c3'⟩ := HK.out _ s9
          go_wp2_with (first | (at_builtin; refine wpList_append_lab rfl (.tmp 139) (.tmp 144) 40 rfl 43 ie (.agg #[.int .i64 0, .int .i64 0, .int .i64 0, .int .i64 0]) 4 32 Try.underlying40 hie hze0 hze1 hze2 rfl (by decide) o8 20000000000007 _ (lessL t yw (l.take j)).length (elv (lessL t yw (l.take j))) rfl (ls9.step (allocStep (fun _ => False) _ o8 _) (by simp)) ⟨w9.heap.size, 0, none⟩ 1 1 [.int .i64 (li : Nat), .int .i64 (lu : Nat), .int .i64 (lv : Nat), .int .i64 lw] rfl rfl ?d1 ?d2 (by decide) ?d3 ?d4 ?_) | go_in)
          case d1 => exact new_four_at rfl _ _ _ _ _
          case d2 => intro u hu; simp at hu; rcases hu with rfl | rfl | rfl | rfl <;> rfl
          case d3 => unfold maxLen; omega
          case d4 => omega
          intro g9 cap9 w10 o10 hr10 hs10
          have s10 : Step (fun k => k = 20000000000007) wr.drew o8 w10 o10 := ((s9.mono fun _ h => h.elim).trans (allocStep (fun k => k = 20000000000007) w9 o8 _)).trans hs10
          have L10 : Row w10 o10 20000000000007 43 4 (.slice (some ⟨g9, 0, none⟩) ((lessL t yw (l.take j)).length + 1) cap9) (lessL t yw (l.take (j + 1))).length (elv (lessL t yw (l.take (j + 1)))) := by
            rw [hsn, elv_snoc, List.length_append]
            exact hr10
          clear y0 y1 y2 y3 c0 c1 c2' c3'
          have RR : ∀ ib : Bool, (ib = true ↔ (t, (⟨yu, yv, yw⟩ : Ed)) ∈ l.take (j + 1)) → ∀ nq, LqS w px t ⟨yu, yv, yw⟩ l (j + 1) (.slice (some ⟨g, 0, none⟩) l.length cap) (.slice (some ⟨g9, 0, none⟩) ((lessL t yw (l.take j)).length + 1) cap9) ib (w10.drewN nq) := fun ib hib nq => by
            have sq := (Step.refl (fun _ => False) w10 o10).drewN nq
            exact ⟨o10, ((r8.step sd id).step s10 (by omega)).step sq id, ((B8.step sd id).step s10 (by omega)).step sq id, (L10).step sq id, hib, ((t8.trans sd.pos0).trans (s10.mono (J := Pos) fun k hk => by unfold Pos; omega)).trans sq.pos0⟩
          obtain ⟨⟨y0, y1, y2, y3⟩, c0, c1, c2', c3'⟩ := HK2.out _ _ s10
          obtain ⟨hmi, hme⟩ := HIN.out
          clear HK HK2 HIN hhv ky r8 B8 ls8 ls9 t8 sd s9 s10 hsn hov hr10 hs10 L10
          cases inb
          · by_cases hit : li = t
            · obtain ⟨rfl, rfl, rfl⟩ := hme hit
              subst hit
              have R1 := RR true (by rw [← hmi]; simp)
              clear RR hmi hme
              go_wp2
              go_quiet (fail)
              go_wp2
              go_roundg (l.length - (j + 1))
              case measure => omega
              case rel => (try ((repeat apply Exists.intro); refine ⟨?_, rfl⟩)); exact ⟨j + 1, true, by go_num, rfl, by omega, rfl, R1 _⟩
            · have R1 := RR false (by rw [← hmi]; simp [hit])
              have d3 : ((li : Int) == (t : Int)) = false := by simp only [beq_eq_false_iff_ne, ne_eq]; omega
              clear RR hmi hme hit
              go_wp2
              go_quiet (fail)
              go_wp2
              go_roundg (l.length - (j + 1))
              case measure => omega
              case rel => (try ((repeat apply Exists.intro); refine ⟨?_, rfl⟩)); exact ⟨j + 1, false, by go_num, rfl, by omega, rfl, R1 _⟩
          · have R1 := RR true (by rw [← hmi]; simp)
            clear RR hmi hme
            go_wp2
            go_quiet (fail)
            go_wp2
            go_roundg (l.length - (j + 1))
            case measure => omega
            case rel => (try ((repeat apply Exists.intro); refine ⟨?_, rfl⟩)); exact ⟨j + 1, true, by go_num, rfl, by omega, rfl, R1 _⟩
        · rw [decide_eq_false hov] at hhv
          rw [if_neg hov] at hsn
          go_wp2_with fail
          go_region_held3 (fun wx => (wx.cell? ⟨px, 0, none⟩ = some (.int .i64 (t : Nat)) ∧ wx.cell? ⟨px, 1, none⟩ = some (.int .i64 (yu : Nat)) ∧ wx.cell? ⟨px, 2, none⟩ = some (.int .i64 (yv : Nat)) ∧ wx.cell? ⟨px, 3, none⟩ = some (.int .i64 yw)) ∧ wx.cell? ⟨g, j * 4, none⟩ = some (.int .i64 (li : Nat)) ∧ wx.cell? ⟨g, j * 4 + 1, none⟩ = some (.int .i64 (lu : Nat)) ∧ wx.cell? ⟨g, j * 4 + 2, none⟩ = some (.int .i64 (lv : Nat)) ∧ wx.cell? ⟨g, j * 4 + 3, none⟩ = some (.int .i64 lw)) (first | (with_reducible exact ky) | (with_reducible exact kz) | go_keep) ((go_at_call 23; refine hhv.mono ?_; rintro e w9 ⟨rfl, s9⟩; have kz := HK.out _ s9))
          have ls9 := (ls8.step sd id).step s9 id
          have s10 : Step (fun k => k = 20000000000007) wr.drew o8 w9 o8 := s9.mono fun _ h => h.elim
          have L10 : Row w9 o8 20000000000007 43 4 (.slice asl (lessL t yw (l.take j)).length caps) (lessL t yw (l.take (j + 1))).length (elv (lessL t yw (l.take (j + 1)))) := by rw [hsn]; exact ls9
          have RR : ∀ ib : Bool, (ib = true ↔ (t, (⟨yu, yv, yw⟩ : Ed)) ∈ l.take (j + 1)) → ∀ nq, LqS w px t ⟨yu, yv, yw⟩ l (j + 1) (.slice (some ⟨g, 0, none⟩) l.length cap) (.slice asl (lessL t yw (l.take j)).length caps) ib (w9.drewN nq) := fun ib hib nq => by
            have sq := (Step.refl (fun _ => False) w9 o8).drewN nq
            exact ⟨o8, ((r8.step sd id).step s10 (by omega)).step sq id, ((B8.step sd id).step s10 (by omega)).step sq id, (L10).step sq id, hib, ((t8.trans sd.pos0).trans (s10.mono (J := Pos) fun k hk => by unfold Pos; omega)).trans sq.pos0⟩
          obtain ⟨⟨y0, y1, y2, y3⟩, c0, c1, c2', c3'⟩ := HK2.out _ _ s10
          obtain ⟨hmi, hme⟩ := HIN.out
          clear HK HK2 HIN hhv ky r8 B8 ls8 ls9 t8 sd s9 s10 hsn hov L10 kz
          cases inb
          · by_cases hit : li = t
            · obtain ⟨rfl, rfl, rfl⟩ := hme hit
              subst hit
              have R1 := RR true (by rw [← hmi]; simp)
              clear RR hmi hme
              go_wp2
              go_quiet (fail)
              go_wp2
              go_roundg (l.length - (j + 1))
              case measure => omega
              case rel => (try ((repeat apply Exists.intro); refine ⟨?_, rfl⟩)); exact ⟨j + 1, true, by go_num, rfl, by omega, rfl, R1 _⟩
            · have R1 := RR false (by rw [← hmi]; simp [hit])
              have d3 : ((li : Int) == (t : Int)) = false := by simp only [beq_eq_false_iff_ne, ne_eq]; omega
              clear RR hmi hme hit
              go_wp2
              go_quiet (fail)
              go_wp2
              go_roundg (l.length - (j + 1))
              case measure => omega
              case rel => (try ((repeat apply Exists.intro); refine ⟨?_, rfl⟩)); exact ⟨j + 1, false, by go_num, rfl, by omega, rfl, R1 _⟩
          · have R1 := RR true (by rw [← hmi]; simp)
            clear RR hmi hme
            go_wp2
            go_quiet (fail)
            go_wp2
            go_roundg (l.length - (j + 1))
            case measure => omega
            case rel => (try ((repeat apply Exists.intro); refine ⟨?_, rfl⟩)); exact ⟨j + 1, true, by go_num, rfl, by omega, rfl, R1 _⟩
      · obtain rfl : j = l.length := by omega
        rw [List.take_length] at ls8 hin
        obtain rfl : inb = true := hin.2 ((T3 _ _).2 ⟨hty, trivial⟩)
        have TL1 := tl_less T3 hty
        have TL2 := tl_with TL1 hty
        have dj : decide (((l.length : Nat) : Int) < ((l.length : Nat) : Int)) = false := decide_eq_false (by omega)
        have hlen : (lessL t yw l).length ≤ 150 := by
          have := List.length_filter_le (fun s : Nat × Ed => decide (s.2.w < yw ∨ (yw = s.2.w ∧ (s.1 : Int) < (t : Int)))) l
          unfold lessL; omega
        have hp1 : (pl (lessL t yw l)).length = (lessL t yw l).length := by simp [pl]
        have hpt := parts_in wr o8 20000000000008 20000000000007 n _ (pl (lessL t yw l)) ls8.vwp (by omega) (by omega) hn2 (by omega) (TL1.pl_lt hok)
        go_wp2_with fail
        refine hpt.mono ?_
        rintro e w9 ⟨g9, b9, o9, rfl, rw9, hif9, s9⟩
        have ls9 := ls8.step s9 (by omega)
        have B9 := B8.step s9 (by omega)
        have t9 := t8.trans (s9.mono (J := Pos) fun k hk => by unfold Pos; omega)
        obtain ⟨⟨y0, y1, y2, y3⟩, yf⟩ := B9.cell4
        clear hpt ls8 B8 r8 t8 s9
        have D1 := new_four_at (w := w9) rfl (.int .i64 (t : Nat)) (.int .i64 (yu : Nat)) (.int .i64 (yv : Nat)) (.int .i64 yw) 43
        have D2 : ∀ u ∈ [Value.int .i64 (t : Nat), .int .i64 (yu : Nat), .int .i64 (yv : Nat), .int .i64 yw], u.oneCell' = true := by
          intro u hu; simp at hu; rcases hu with rfl | rfl | rfl | rfl <;> rfl
        have D3 : (lessL t yw l).length + 1 ≤ maxLen := by unfold maxLen; omega
        have D4 : ((lessL t yw l).length + 1) * 32 ≤ 140737488355328 := by omega
        have HD : Hid ((∀ j v, [Value.int .i64 (t : Nat), .int .i64 (yu : Nat), .int .i64 (yv : Nat), .int .i64 yw][j]? = some v → (w9.alloc (.cells #[.int .i64 (t : Nat), .int .i64 (yu : Nat), .int .i64 (yv : Nat), .int .i64 yw] 43)).cell? ((⟨w9.heap.size, 0, none⟩ : Addr).add j) = some v) ∧ (∀ u ∈ [Value.int .i64 (t : Nat), .int .i64 (yu : Nat), .int .i64 (yv : Nat), .int .i64 yw], u.oneCell' = true) ∧ (lessL t yw l).length + 1 ≤ maxLen ∧ ((lessL t yw l).length + 1) * 32 ≤ 140737488355328) := ⟨D1, D2, D3, D4⟩
        clear D1 D2 D3 D4
        go_wp2_with (first | (at_builtin; refine wpList_append_lab rfl (.tmp 159) (.tmp 161) 40 rfl 43 ie (.agg #[.int .i64 0, .int .i64 0, .int .i64 0, .int .i64 0]) 4 32 Try.underlying40 hie hze0 hze1 hze2 rfl (by decide) o9 20000000000007 _ (lessL t yw l).length (elv (lessL t yw l)) rfl (ls9.step (allocStep (fun _ => False) _ o9 _) (by simp)) ⟨w9.heap.size, 0, none⟩ 1 1 [.int .i64 (t : Nat), .int .i64 (yu : Nat), .int .i64 (yv : Nat), .int .i64 yw] rfl rfl ?d1 ?d2 (by decide) ?d3 ?d4 ?_) | go_in)
        case d1 => first | exact new_four_at rfl _ _ _ _ _ | exact HD.out.1 | (intro j u hj; exact HD.out.1 j u (by simp at hj ⊢; exact hj)) | (simp)
        case d2 => first | exact ⟨rfl, rfl, rfl, rfl⟩ | exact HD.out.2.1
        case d3 => exact HD.out.2.2.1
        case d4 => exact HD.out.2.2.2
        intro ga capa w10 o10 hr10 hs10
        have s10 := (allocStep (fun k => k = 20000000000007) w9 o9 _).trans hs10
        have L10 : Row w10 o10 20000000000007 43 4 (.slice (some ⟨ga, 0, none⟩) ((lessL t yw l).length + 1) capa) (lessL t yw l ++ [(t, (⟨yu, yv, yw⟩ : Ed))]).length (elv (lessL t yw l ++ [(t, (⟨yu, yv, yw⟩ : Ed))])) := by
          rw [elv_snoc, List.length_append]
          exact hr10
        have rw10 := rw9.step s10 (by omega)
        have t10 := t9.trans (s10.mono (J := Pos) fun k hk => by unfold Pos; omega)
        have hp2 : (pl (lessL t yw l ++ [(t, (⟨yu, yv, yw⟩ : Ed))])).length = (lessL t yw l).length + 1 := by simp [pl]
        have hpt := parts_in w10 o10 20000000000009 20000000000007 n _ (pl (lessL t yw l ++ [(t, (⟨yu, yv, yw⟩ : Ed))])) L10.vwp (by omega) (by omega) hn2 (by omega) (TL2.pl_lt hok)
        clear hr10 hs10 s10 L10 ls9 B9 rw9 t9 y0 y1 y2 y3 yf HD
        go_wp2_with fail
        refine hpt.mono ?_
        rintro e w11 ⟨g11, b11, o11, rfl, rw11, hif11, s11⟩
        have rw12 := rw10.step s11 (by omega)
        have t11 := t10.trans (s11.mono (J := Pos) fun k hk => by unfold Pos; omega)
        have RR : ∀ j, Below w.heap.size w (w11.drewN j) := fun j => (t11.drewN j).old
        obtain ⟨gg, cc, ee, _, _, _, _, hcb, _⟩ := rw12.pos (by omega)
        simp only [Value.slice.injEq, Option.some.injEq, Addr.mk.injEq, and_true, true_and] at ee
        obtain ⟨rfl, rfl⟩ := ee
        have cu := (hcb u (by omega)).trans (natsF_get b9 hu)
        have cv := (hcb v (by omega)).trans (natsF_get b9 hv)
        obtain ⟨gg, cc, ee, _, _, _, _, hcb2, _⟩ := rw11.pos (by omega)
        simp only [Value.slice.injEq, Option.some.injEq, Addr.mk.injEq, and_true, true_and] at ee
        obtain ⟨rfl, rfl⟩ := ee
        have du := (hcb2 u (by omega)).trans (natsF_get b11 hu)
        have dv := (hcb2 v (by omega)).trans (natsF_get b11 hv)
        have e1 : b9 u ≠ b9 v := fun h => hbn.2 ((TL1.cn).1 ((hif9 u v hu hv).1 h))
        have e2 : b11 u = b11 v := (hif11 u v hu hv).2 ((TL2.cn).2 hbn.1)
        rw [e2] at du
        have d3 : ((b9 u : Int) == (b9 v : Int)) = false := by simp only [beq_eq_false_iff_ne, ne_eq]; omega
        generalize b9 u = bu at *
        generalize b9 v = bv at *
        generalize b11 v = bw at *
        have d7 : ((bu : Int) != (bv : Int)) = true := by unfold bne; rw [d3]; rfl
        clear hpt rw10 rw11 rw12 s11 t10 t11 hif9 hif11 TL1 TL2 T3 hcb hcb2 hbn e2 hin
        go_wp2
        go_quiet (fail)
        go_wp2
        go_ret
        exact ⟨by first | rfl | exact ret_bool (by simp), RR _⟩
  · have hd1 : u = v ∨ ¬ Cn (fun _ => True) D u v := by
      by_cases e : u = v
      · exact .inl e
      · exact .inr fun q => hd ⟨e, q⟩
    have hb1 := bottle_none wc o3 1 p n D ed m c u v X3 hu hv hd1
    clear X3
    go_wp2_with fail
    refine hb1.mono ?_
    rintro e w5 ⟨rfl, o5, X5, s5⟩
    have n5 := newStep (fun _ => False) w5 o5 20000000000005 (.cells #[.int .i64 0, .int .i64 0, .int .i64 0, .int .i64 0] 43)
    have B5 : Blk (w5.alloc (.cells #[.int .i64 0, .int .i64 0, .int .i64 0, .int .i64 0] 43)) (newLab w5 o5 20000000000005) 20000000000005 w5.heap.size (.cells #[.int .i64 0, .int .i64 0, .int .i64 0, .int .i64 0] 43 (0, 0)) := ⟨heap_alloc_new w5 _, newLab_new (Nat.le_refl _)⟩
    have r6 := (r3.step s5 hl20).step n5 id
    have t6 := (t3.trans (s5.posM (by omega))).trans n5.pos0
    generalize newLab w5 o5 20000000000005 = o6 at n5 B5 r6 t6
    have hpt := parts_in (w5.alloc (.cells #[.int .i64 0, .int .i64 0, .int .i64 0, .int .i64 0] 43)) o6 20000000000006 20000000000001 n _ (pl l) r6.vwp (by omega) (by omega) hn2 (by omega) hplt
    clear hb1 X5 s5 n5 r3 t3
    go_wp2_with fail
    refine hpt.mono ?_
    rintro e w7 ⟨g7, b7, o7, rfl, rw7, hiff, s7⟩
    have B7 := B5.step s7 (by omega)
    have t7 := t6.trans (s7.mono (J := Pos) fun k hk => by unfold Pos; omega)
    obtain ⟨⟨x0, x1, x2, x3⟩, _⟩ := B7.cell4
    obtain ⟨gg, cc, ee, _, _, _, _, hcb, _⟩ := rw7.pos (by omega)
    simp only [Value.slice.injEq, Option.some.injEq, Addr.mk.injEq, and_true, true_and] at ee
    obtain ⟨rfl, rfl⟩ := ee
    have cu := (hcb u (by omega)).trans (natsF_get b7 hu)
    have cv := (hcb v (by omega)).trans (natsF_get b7 hv)
    have RR : ∀ j, Below w.heap.size w (w7.drewN j) := fun j => (t7.drewN j).old
    have hne : u = v ∨ b7 u ≠ b7 v := hd1.imp id fun q r => q ((T3.cn).1 ((hiff u v hu hv).1 r))
    clear hpt B5 r6 t6 rw7 hiff s7 B7 t7 hcb hd hd1 T3
    by_cases e : u = v
    · subst e
      go_wp2
      go_quiet (fail)
      go_wp2
      go_ret
      exact ⟨by first | rfl | exact ret_bool (by simp), RR _⟩
    · have hbe := hne.resolve_left e
      have d1 : ((u : Int) == (v : Int)) = false := by simp only [beq_eq_false_iff_ne, ne_eq]; omega
      have d2 : ((b7 u : Int) == (b7 v : Int)) = false := by simp only [beq_eq_false_iff_ne, ne_eq]; omega
      generalize b7 u = bu at *
      generalize b7 v = bv at *
      clear hne
      go_wp2
      go_quiet (fail)
      go_wp2
      go_ret
      exact ⟨by first | rfl | exact ret_bool (by simp), RR _⟩

end Go.Proofs.Ytffmlffhiimmdaa
