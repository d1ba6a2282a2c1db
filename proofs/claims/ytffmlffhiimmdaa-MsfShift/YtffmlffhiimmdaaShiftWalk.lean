/- The walk of the law MsfShift. -/
import Derived.Test.YtffmlffhiimmdaaShiftM
namespace Go.Proofs.Ytffmlffhiimmdaa
open Go.ChangeShapes Go.WideShapes Go.ChangeAt Go.RowKit
set_option linter.unusedVariables false

theorem ML.two {k : Nat} (h : 20000000000000 ≤ k) : ¬ ML 1 k ∧ ¬ ML 10000000000000 k := ⟨fun x => by have := x.2; omega, fun x => by have := x.2; omega⟩
theorem ML.apart {k : Nat} (h : ML 1 k) : ¬ ML 10000000000000 k := fun x => by have := h.2; have := x.1; omega
theorem Row.vw7 {w : World} {o : Nat → Nat} {i : Nat} {v : Value} {xs : List Nat} (h : Row w o i 3 1 v xs.length (intsL xs)) : Vw w o i v xs := h.vw
/-- Between two rounds: both forests, and the list. -/
def ShS (w : World) (p q n : Nat) (D E ed ed' : Nat → Option Ed) (m c m' c' : Nat) (va : Value) (l : List Nat) (wr : World) : Prop :=
  ∃ o', Mx wr o' 1 p n D ed m c ∧ Mx wr o' 10000000000000 q n E ed' m' c' ∧ Row wr o' 20000000000001 3 1 va l.length (intsL l) ∧ Step Pos w o0 wr o'

set_option maxRecDepth 100000 in
set_option maxHeartbeats 8000000 in
theorem shift_walk (w : World) (c0 c2 c3 : Int) (a1 : Option Addr) (len1 cap1 : Nat) (f : Nat → EdT) (ha1 : ArgE w o0 a1 len1 f) (h1 : len1 ≤ 9223372036854775807) (hc0 : -9223372036854775808 ≤ c0 ∧ c0 ≤ 9223372036854775807) (hc2 : -9223372036854775808 ≤ c2 ∧ c2 ≤ 9223372036854775807) (hc3 : -9223372036854775808 ≤ c3 ∧ c3 ≤ 9223372036854775807) :
    Calls Try.prog 7 #[.int .i64 c0, .slice a1 len1 cap1, .int .i64 c2, .int .i64 c3] w fun e w' => e = .returned (.bool true) ∧ Below w.heap.size w w' := by
  have npos : ¬ Pos 0 := by unfold Pos; omega
  go_enter Try.func7, Try.ntmps7
  go_wp2_with fail
  refine (awake7 w).mono ?_
  rintro e w1 ⟨rfl, hb1⟩
  have t1 : Step Pos w o0 w1 o0 := Step.ofBelow o0 hb1
  clear hb1
  go_wp2_with fail
  refine (pick_any c0 40 w1 hc0.1 hc0.2 (by omega) (by omega)).mono ?_
  rintro e w2 ⟨n0, hn0, rfl, hw2⟩
  obtain rfl : w1 = w2 := hw2.symm
  obtain ⟨n, hn⟩ : ∃ n, n = n0 + 2 := ⟨_, rfl⟩
  have HN : Hid (2 + (n0 : Int) = (n : Int)) := by show _ = _; omega
  have hn1 : 2 ≤ n := by omega
  have hn2 : n ≤ 64 := by omega
  clear hn
  go_wp2_with fail
  rw [HN.out]
  clear HN hn0
  refine (pick_any c2 1000 w1 hc2.1 hc2.2 (by omega) (by omega)).mono ?_
  rintro e w2 ⟨t0, ht0, rfl, hw2⟩
  obtain rfl : w1 = w2 := hw2.symm
  obtain ⟨ti, hti⟩ : ∃ ti : Int, ti = 1 + (t0 : Int) := ⟨_, rfl⟩
  have HT : Hid (1 + (t0 : Int) = ti) := hti.symm
  have hti1 : 1 ≤ ti ∧ ti ≤ 1000 := by omega
  clear hti
  go_wp2_with fail
  rw [HT.out]
  clear HT ht0
  refine (pick_any c3 2000001 w1 hc3.1 hc3.2 (by omega) (by omega)).mono ?_
  rintro e w2 ⟨m0, hm0, rfl, hw2⟩
  obtain rfl : w1 = w2 := hw2.symm
  obtain ⟨mo, hmo⟩ : ∃ mo : Int, mo = (m0 : Int) - 1000000 := ⟨_, rfl⟩
  have HM : Hid ((m0 : Int) - 1000000 = mo) := hmo.symm
  have hmo1 : -1000000 ≤ mo ∧ mo ≤ 1000000 := by omega
  clear hmo
  go_wp2_with fail
  rw [HM.out]
  clear HM hm0
  have hA1 := ha1.step t1 npos
  refine (filled_in w1 o0 1 n a1 len1 cap1 f 1 0 hA1 (by omega) ⟨by omega, hn2⟩ h1 (by omega) (by omega)).mono ?_
  rintro e w3 ⟨p, rfl, o3, ed, m, c, X3, hm, hc, s3⟩
  have t3 := t1.trans (s3.posM (by omega))
  have hA3 := ha1.step t3 npos
  clear t1 s3 hA1
  go_wp2_with fail
  refine (filled_in w3 o3 10000000000000 n a1 len1 cap1 f ti mo hA3 (by omega) ⟨by omega, hn2⟩ h1 hti1 hmo1).mono ?_
  rintro e w4 ⟨q, rfl, o4, ed', m', c', Y4, hm', hc', s4⟩
  have t4 := t3.trans (s4.posM (by omega))
  have X4 := X3.step s4 (fun k hk => hk.apart)
  have SD := fD_sh f n ti mo (min len1 150) hti1.1
  have SE := SD.forest X4.1.1 Y4.1.1 X4.acy Y4.acy
  have hm1 : m ≤ 192 := by omega
  have hm2 : m' ≤ 192 := by omega
  clear t3 s4 hA3 X3 ha1 hm hm' hc hc'
  generalize fD f n 1 0 (min len1 150) = D at X4 SD
  generalize fD f n ti mo (min len1 150) = E at Y4 SD
  go_wp2_with fail
  refine (all_in w4 o4 1 20000000000002 20000000000001 p n D ed m c X4 hm1 (ML.two (by omega)).1 (ML.two (by omega)).1 (by omega)).mono ?_
  rintro e w5 ⟨l, va, o5, rfl, i5, so5, hl5, r5, X5, s5⟩
  have Y5 := Y4.step s5 (fun k hk h => h.elim (fun e => (ML.two (by omega)).2 hk) (fun e => (ML.two (by omega)).2 hk))
  have t5 := t4.trans (s5.mono (J := Pos) fun k hk => by unfold Pos; omega)
  clear s5 t4 X4 Y4
  go_wp2_with fail
  refine (all_in w5 o5 10000000000000 20000000000004 20000000000003 q n E ed' m' c' Y5 hm2 (ML.two (by omega)).2 (ML.two (by omega)).2 (by omega)).mono ?_
  rintro e w6 ⟨l', vb, o6, rfl, i6, so6, _, r6, Y6, s6⟩
  obtain rfl : l' = l := i6.eq (SE.ids i5) so6 so5
  have X6 := X5.step s6 (fun k hk h => h.elim (fun e => (ML.two (by omega)).1 hk) (fun e => (ML.two (by omega)).1 hk))
  have q6 := r5.step s6 (by omega)
  have t6 := t5.trans (s6.mono (J := Pos) fun k hk => by unfold Pos; omega)
  have hsm := same_true _ _ _ _ _ _ _ _ q6.vw r6.vw (by omega)
  clear s6 t5 X5 Y5 r5 i6 so6 so5 r6
  go_wp2_with fail
  refine hsm.mono ?_
  rintro e w7 ⟨rfl, m7, hw7⟩
  have s7 : Step (fun _ => False) w6 o6 w7 o6 := hw7 ▸ (Step.refl _ _ _).drewN m7
  have START : ShS w p q n D E ed ed' m c m' c' va l' w7 := ⟨o6, X6.step s7 (fun _ _ => id), Y6.step s7 (fun _ _ => id), q6.step s7 id, t6.trans s7.pos0⟩
  clear hsm s7 X6 Y6 q6 t6 hw7
  go_wp2
  go_loopg [14] n (fun g vv wr => ∃ v : Nat, v ≤ n ∧ vv = .int .i64 (v : Nat) ∧ g = n - v ∧ ShS w p q n D E ed ed' m c m' c' va l' wr)
  case atStart => exact ⟨0, by omega, by go_num, by omega, START⟩
  case round =>
    clear START
    obtain ⟨v, hv, rfl, rfl, o8, X8, Y8, q8, t8⟩ := hrel
    by_cases hvn : v < n
    · have hvI : (v : Int) < (n : Int) := by omega
      have hun : n - 1 - v < n := by omega
      have b2 : (n : Int) - 1 - (v : Int) = ((n - 1 - v : Nat) : Int) := by omega
      generalize n - 1 - v = u at hun b2
      by_cases hd : v ≠ u ∧ Cn (fun _ => True) D v u
      · have hb1 := bottle_ok wr o8 1 p n D ed m c v u X8 hvn hun hd.1 hd.2
        go_wp2_with fail
        refine hb1.mono ?_
        rintro e w9 ⟨t, ⟨xu, xv, xw⟩, rfl, ⟨hty, hbn⟩, o9, X9, s9⟩
        simp only
        have n9 := newStep (fun _ => False) w9 o9 20000000000005 (.cells #[.int .i64 (t : Nat), .int .i64 (xu : Nat), .int .i64 (xv : Nat), .int .i64 xw] 43)
        have B9 : Blk (w9.alloc (.cells #[.int .i64 (t : Nat), .int .i64 (xu : Nat), .int .i64 (xv : Nat), .int .i64 xw] 43)) (newLab w9 o9 20000000000005) 20000000000005 w9.heap.size (.cells #[.int .i64 (t : Nat), .int .i64 (xu : Nat), .int .i64 (xv : Nat), .int .i64 xw] 43 (0, 0)) := ⟨heap_alloc_new w9 _, newLab_new (Nat.le_refl _)⟩
        have X10 := X9.step n9 (fun _ _ => id)
        have Y10 := (Y8.step s9 (fun k hk h => h.apart hk)).step n9 (fun _ _ => id)
        have q10 := (q8.step s9 (ML.two (by omega)).1).step n9 id
        have t10 := (t8.trans (s9.posM (by omega))).trans n9.pos0
        obtain ⟨w10, hw10⟩ : ∃ w10, w10 = w9.alloc (.cells #[.int .i64 (t : Nat), .int .i64 (xu : Nat), .int .i64 (xv : Nat), .int .i64 xw] 43) := ⟨_, rfl⟩
        generalize newLab w9 o9 20000000000005 = o10 at n9 B9 X10 Y10 q10 t10
        have hb2 := bottle_ok (w9.alloc (.cells #[.int .i64 (t : Nat), .int .i64 (xu : Nat), .int .i64 (xv : Nat), .int .i64 xw] 43)) o10 10000000000000 q n E ed' m' c' v u Y10 hvn hun hd.1 ((SD.cn fun _ => Iff.rfl).1 hd.2)
        clear hw10 hb1 X9 s9 n9 X8 Y8 q8 t8 Y10
        go_wp2_with fail
        refine hb2.mono ?_
        rintro e w11 ⟨t', ⟨yu, yv, yw⟩, rfl, ⟨hty', hbn'⟩, o11, Y11, s11⟩
        have hE := SD.thr t _ hty
        obtain rfl : t' = t := hbn'.uniq ((SD.bn).1 hbn) hty' hE
        rw [hty'] at hE
        simp only [Option.some.injEq, Ed.mk.injEq] at hE
        obtain ⟨rfl, rfl, hyw⟩ := hE
        subst hyw
        obtain ⟨hz1, hz2⟩ : -1099511627776000 ≤ xw * ti ∧ xw * ti ≤ 1099511627776000 := by
          have hok := (X10.1.2 t' _ hty).2.2.2.2
          have g1 : xw * ti ≤ 1099511627776 * ti := Int.mul_le_mul_of_nonneg_right hok.2 (by omega)
          have g2 : -1099511627776 * ti ≤ xw * ti := Int.mul_le_mul_of_nonneg_right hok.1 (by omega)
          omega
        have hwA : wrap64 (xw * ti) = xw * ti := by unfold wrap64; omega
        have hwB : wrap64 (xw * ti + mo) = xw * ti + mo := by unfold wrap64; omega
        have n11 := newB5 w11 o11 (.cells #[.int .i64 (t' : Nat), .int .i64 (yu : Nat), .int .i64 (yv : Nat), .int .i64 (xw * ti + mo)] 43)
        have B11 := (B9.step s11 (ML.two (by omega)).2).step n11 id
        obtain ⟨⟨x0, x1, x2, x3⟩, _⟩ := B11.cell4
        have RR : ShS w p q n D E ed ed' m c m' c' va l' (w11.alloc (.cells #[.int .i64 (t' : Nat), .int .i64 (yu : Nat), .int .i64 (yv : Nat), .int .i64 (xw * ti + mo)] 43)) := ⟨o11, (X10.step s11 (fun k hk => hk.apart)).step n11 (fun _ _ => id), Y11.step n11 (fun _ _ => id), (q10.step s11 (ML.two (by omega)).2).step n11 id, (t10.trans (s11.posM (by omega))).trans n11.pos0⟩
        clear hb2 Y11 s11 n11 B11 B9 X10 q10 t10 hbn hbn' hty hty'
        go_wp2
        go_roundg (n - (v + 1))
        case measure => omega
        case rel => exact ⟨v + 1, by omega, by go_num, rfl, RR⟩
      · have hd1 : v = u ∨ ¬ Cn (fun _ => True) D v u := by
          by_cases e : v = u
          · exact .inl e
          · exact .inr fun q => hd ⟨e, q⟩
        have hd2 : v = u ∨ ¬ Cn (fun _ => True) E v u := hd1.imp id fun q r => q ((SD.cn fun _ => Iff.rfl).2 r)
        have hb1 := bottle_none wr o8 1 p n D ed m c v u X8 hvn hun hd1
        go_wp2_with fail
        refine hb1.mono ?_
        rintro e w9 ⟨rfl, o9, X9, s9⟩
        have n9 := newStep (fun _ => False) w9 o9 20000000000005 (.cells #[.int .i64 0, .int .i64 0, .int .i64 0, .int .i64 0] 43)
        have B9 : Blk (w9.alloc (.cells #[.int .i64 0, .int .i64 0, .int .i64 0, .int .i64 0] 43)) (newLab w9 o9 20000000000005) 20000000000005 w9.heap.size (.cells #[.int .i64 0, .int .i64 0, .int .i64 0, .int .i64 0] 43 (0, 0)) := ⟨heap_alloc_new w9 _, newLab_new (Nat.le_refl _)⟩
        have X10 := X9.step n9 (fun _ _ => id)
        have Y10 := (Y8.step s9 (fun k hk h => h.apart hk)).step n9 (fun _ _ => id)
        have q10 := (q8.step s9 (ML.two (by omega)).1).step n9 id
        have t10 := (t8.trans (s9.posM (by omega))).trans n9.pos0
        generalize newLab w9 o9 20000000000005 = o10 at n9 B9 X10 Y10 q10 t10
        have hb2 := bottle_none (w9.alloc (.cells #[.int .i64 0, .int .i64 0, .int .i64 0, .int .i64 0] 43)) o10 10000000000000 q n E ed' m' c' v u Y10 hvn hun hd2
        clear hb1 X9 s9 n9 X8 Y8 q8 t8 Y10 hd hd1 hd2
        go_wp2_with fail
        refine hb2.mono ?_
        rintro e w11 ⟨rfl, o11, Y11, s11⟩
        have n11 := newB5 w11 o11 (.cells #[.int .i64 0, .int .i64 0, .int .i64 0, .int .i64 0] 43)
        have B11 := (B9.step s11 (ML.two (by omega)).2).step n11 id
        obtain ⟨⟨x0, x1, x2, x3⟩, _⟩ := B11.cell4
        have RR : ShS w p q n D E ed ed' m c m' c' va l' (w11.alloc (.cells #[.int .i64 0, .int .i64 0, .int .i64 0, .int .i64 0] 43)) := ⟨o11, (X10.step s11 (fun k hk => hk.apart)).step n11 (fun _ _ => id), Y11.step n11 (fun _ _ => id), (q10.step s11 (ML.two (by omega)).2).step n11 id, (t10.trans (s11.posM (by omega))).trans n11.pos0⟩
        clear hb2 Y11 s11 n11 B11 B9 X10 q10 t10
        go_wp2
        go_roundg (n - (v + 1))
        case measure => omega
        case rel => exact ⟨v + 1, by omega, by go_num, rfl, RR⟩
    · have dv : decide ((v : Int) < (n : Int)) = false := decide_eq_false (by omega)
      obtain ⟨ao, cap, hva⟩ := q8.form
      subst hva
      have hw1 := weight_in wr o8 10000000000000 20000000000007 q n E ed' m' c' Y8 hm2 (ML.two (by omega)).2
      have hokp := X8.ok
      go_wp2_with fail
      refine hw1.mono ?_
      rintro e w9 ⟨l9, i9, rfl, o9, Y9, s9⟩
      have X9 := X8.step s9 (fun k hk e => (ML.two (by omega)).1 (e ▸ hk))
      have t9 := t8.trans (s9.mono (J := Pos) fun k hk => by unfold Pos; omega)
      have hw2 := weight_in w9 o9 1 20000000000008 p n D ed m c X9 hm1 (ML.two (by omega)).1
      clear hw1 Y9 s9 X8 Y8 q8 t8
      go_wp2_with fail
      refine hw2.mono ?_
      rintro e w10 ⟨l10, i10, rfl, o10, X10, s10⟩
      have RR := (t9.trans (s10.mono (J := Pos) fun k hk => by unfold Pos; omega)).old
      have e9 : (l9.map (wOf ed')).sum = (l'.map (wOf ed')).sum := sum_perm _ (i9.perm (SE.ids i5))
      have e10 : (l10.map (wOf ed)).sum = (l'.map (wOf ed)).sum := sum_perm _ (i10.perm i5)
      have hmem : ∀ i ∈ l', (ed i).isSome = true := fun i hi => (i5.2 i).1 hi
      have es := SE.sum l' hmem
      have bd := sum_bd hokp l' hmem
      have bd2 : -211106232532992 ≤ (l'.map (wOf ed)).sum ∧ (l'.map (wOf ed)).sum ≤ 211106232532992 := by omega
      rw [e9, e10, es]
      clear hw2 X10 s10 X9 t9 i9 i10 e9 e10 es SE SD bd i5 hmem
      generalize (l'.map (wOf ed)).sum = S at bd2 ⊢
      obtain ⟨y1, y2⟩ : -211106232532992000 ≤ S * ti ∧ S * ti ≤ 211106232532992000 := by
        have g1 : S * ti ≤ 211106232532992 * ti := Int.mul_le_mul_of_nonneg_right bd2.2 (by omega)
        have g2 : -211106232532992 * ti ≤ S * ti := Int.mul_le_mul_of_nonneg_right bd2.1 (by omega)
        omega
      obtain ⟨y3, y4⟩ : -192000000 ≤ mo * (l'.length : Int) ∧ mo * (l'.length : Int) ≤ 192000000 := by
        have g1 : mo * (l'.length : Int) ≤ 1000000 * (l'.length : Int) := Int.mul_le_mul_of_nonneg_right hmo1.2 (by omega)
        have g2 : -1000000 * (l'.length : Int) ≤ mo * (l'.length : Int) := Int.mul_le_mul_of_nonneg_right hmo1.1 (by omega)
        omega
      have hwA : wrap64 (S * ti) = S * ti := by unfold wrap64; omega
      have hwB : wrap64 (mo * (l'.length : Int)) = mo * (l'.length : Int) := by unfold wrap64; omega
      have hwC : wrap64 (S * ti + mo * (l'.length : Int)) = S * ti + mo * (l'.length : Int) := by unfold wrap64; omega
      go_wp2
      go_ret
      exact ⟨by first | rfl | exact ret_bool (by simp [hwA, hwB, hwC]), RR⟩

end Go.Proofs.Ytffmlffhiimmdaa
