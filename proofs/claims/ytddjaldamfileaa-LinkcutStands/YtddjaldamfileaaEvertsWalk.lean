/- The walk of the law LinkcutEverts. -/
import Derived.Test.YtddjaldamfileaaGrow5
import Derived.Deep.CutBlock
import Derived.Deep.DeepCutAuto
import Derived.Deep.LoopGhost
namespace Go.Proofs.Ytddjaldamfileaa
open Go.ChangeShapes Go.WideShapes Go.ChangeAt Go.RowKit Go.Maps
set_option linter.unusedVariables false

/-- An argument among labels: it lies under label nought. -/
def Arg0 (w : World) (o : Nat → Nat) (ao : Option Addr) (len : Nat) (z : Nat → Int) : Prop :=
  ∀ j, j < len → ∃ b off, ao = some ⟨b, off, none⟩ ∧ b < w.heap.size ∧ o b = 0 ∧ w.cell? ⟨b, off + j, none⟩ = some (.int .i64 (z j)) ∧ -9223372036854775808 ≤ z j ∧ z j ≤ 9223372036854775807
theorem Arg0.step {I : Nat → Prop} {w w' : World} {o o' : Nat → Nat} {ao : Option Addr} {len : Nat} {z : Nat → Int} (h : Arg0 w o ao len z) (s : Step I w o w' o') (hi : ¬ I 0) : Arg0 w' o' ao len z := by
  intro j hj
  obtain ⟨b, off, h1, h2, h3, h4, h5⟩ := h j hj
  refine ⟨b, off, h1, Nat.lt_of_lt_of_le h2 s.size, (s.lab b h2).trans h3, (s.cell (g := b) h2 (by rw [h3]; exact hi) _).trans h4, h5⟩
theorem Arg.at0 {w : World} {ao : Option Addr} {len : Nat} {z : Nat → Int} (h : Arg w ao len z) : Arg0 w o0 ao len z := by
  intro j hj
  obtain ⟨b, off, h1, h2, h3, h4, h5⟩ := h j hj
  exact ⟨b, off, h1, h2, rfl, h3, h4, h5⟩
/-- The tree so far. -/
def TreeS (w : World) (p n i0 i : Nat) (wr : World) : Prop := ∃ o' ed R, Tx wr o' 1 p n ed R (i - 1) ∧ Grows n i R ∧ (∀ id, i0 + i ≤ id → ed id = none) ∧ Step Pos w o0 wr o'
theorem tdivk_bd {x : Int} (k : Int) (hk : 1 ≤ k) (h1 : -9223372036854775808 ≤ x) (h2 : x ≤ 9223372036854775807) : -9223372036854775808 ≤ x.tdiv k ∧ x.tdiv k ≤ 9223372036854775807 := by
  rcases Int.le_total 0 x with h | h
  · have a := Int.tdiv_nonneg h (by omega : 0 ≤ k)
    have b := Int.tdiv_le_self (b := k) h
    omega
  · have a := Int.tdiv_nonneg (a := -x) (b := k) (by omega) (by omega)
    have b := Int.tdiv_le_self (b := k) (a := -x) (by omega)
    rw [Int.neg_tdiv] at a b
    omega

/-- What Most tells of two vertices of one tree. -/
def MostIs (ed : Nat → Option Ed) (W : List Nat) (u v : Nat) (a b c d g : Int) : Prop :=
  (u = v ∧ a = 0 ∧ b = 0 ∧ c = 0 ∧ d = 0 ∧ g = 54) ∨ (u ≠ v ∧ g = 0 ∧ ∃ t : Nat, (TopE (edE ed) W t ∧ t ≠ 0) ∧ a = (((t - 2) / 2 : Nat) : Int) ∧ b = (edE ed t).u ∧ c = (edE ed t).v ∧ d = (edE ed t).w)
theorem MostIs.uniq {ed : Nat → Option Ed} {W W' : List Nat} {u v : Nat} {a b c d g a' b' c' d' g' : Int} (h : MostIs ed W u v a b c d g) (k : MostIs ed W' v u a' b' c' d' g') (e : ∀ x, x ∈ W' ↔ x ∈ W) : a = a' ∧ b = b' ∧ c = c' ∧ d = d' ∧ g = g' := by
  rcases h with ⟨h0, h1, h2, h3, h4, h5⟩ | ⟨h0, h1, t, ht, h2, h3, h4, h5⟩ <;> rcases k with ⟨k0, k1, k2, k3, k4, k5⟩ | ⟨k0, k1, s, ks, k2, k3, k4, k5⟩
  · subst h1 h2 h3 h4 h5 k1 k2 k3 k4 k5; exact ⟨rfl, rfl, rfl, rfl, rfl⟩
  · exact absurd h0.symm k0
  · exact absurd k0.symm h0
  · have := (ht.1.congr e).uniq ks.1
    subst this h1 h2 h3 h4 h5 k1 k2 k3 k4 k5
    exact ⟨rfl, rfl, rfl, rfl, rfl⟩
theorem most_gen (w : World) (o : Nat → Nat) (L p n : Nat) (ed : Nat → Option Ed) (R : Nat → List Nat) (m u v lb : Nat) (X : Tx w o L p n ed R m) (hu : u < n) (hv : v < n) (hd : (R (2 * u + 1)).head? = (R (2 * v + 1)).head?) (hlb : ¬ TL L lb) :
    Calls Try.prog 22 #[.pointer (some ⟨p, 0, none⟩), .int .i64 u, .int .i64 v] w fun e w' => ∃ a b c d g o', e = .returned (.tuple #[.agg #[.int .i64 a, .int .i64 b, .int .i64 c, .int .i64 d], .int .i64 g]) ∧ MostIs ed (way R u v) u v a b c d g ∧ Tx w' o' L p n ed R m ∧ Step (fun k => TL L k ∨ k = lb) w o w' o' := by
  by_cases uv : u = v
  · subst uv
    refine (most_self w o L p n ed R m u X hu).mono ?_
    rintro e w' ⟨o', rfl, X', s'⟩
    exact ⟨0, 0, 0, 0, 54, o', rfl, .inl ⟨rfl, rfl, rfl, rfl, rfl, rfl⟩, X', s'.mono fun k hk => .inl hk⟩
  · have hT : Rt (liveN n ed) R := by obtain ⟨_, _, _, _, _, _, F⟩ := X; exact F.rt
    have hne := way_edge X.1.2.2.2 X.1.2.2.1 hT hu hv uv hd
    refine (most_in w o L p n ed R m u v lb X hu hv uv hd hlb hne).mono ?_
    rintro e w' ⟨t, o', rfl, ht, X', s'⟩
    exact ⟨_, _, _, _, 0, o', rfl, .inr ⟨uv, rfl, t, ht, rfl, rfl, rfl, rfl⟩, X', s'⟩

set_option maxRecDepth 100000 in
set_option maxHeartbeats 4000000 in
theorem everts_walk (w : World) (cu cv cr : Int) (a0 : Option Addr) (len0 cap0 : Nat) (z : Nat → Int) (ha0 : Arg w a0 len0 z) (h1 : len0 ≤ 9223372036854775807) (hcu : -9223372036854775808 ≤ cu ∧ cu ≤ 9223372036854775807) (hcv : -9223372036854775808 ≤ cv ∧ cv ≤ 9223372036854775807) (hcr : -9223372036854775808 ≤ cr ∧ cr ≤ 9223372036854775807) :
    Calls Try.prog 5 #[.slice a0 len0 cap0, .int .i64 cu, .int .i64 cv, .int .i64 cr] w fun e w' => e = .returned (.bool true) ∧ Below w.heap.size w w' := by
  have npos : ¬ Pos 0 := by unfold Pos; omega
  obtain ⟨n, hn⟩ : ∃ n, n = 2 + min len0 62 := ⟨_, rfl⟩
  have HN : Hid (n = 2 + min len0 62) := hn
  clear hn
  go_enter Try.func5, Try.ntmps5
  go_wp2_with fail
  refine (awake_any w).mono ?_
  rintro e w1 ⟨rfl, hb1⟩
  have t1 : Step Pos w o0 w1 o0 := Step.ofBelow o0 hb1
  go_upto_region 2 with fail
  go_cut [10] (fun v wx => v = .int .i64 n ∧ wx = w1)
  case first =>
    go_wp2
    all_goals
      go_meet
      exact ⟨by first | rw [show (64 : Int) = (n : Int) by have := HN.out; omega] | rw [show (2 + (len0 : Int)) = (n : Int) by have := HN.out; omega], rfl⟩
  case rest =>
  obtain ⟨rfl, rfl⟩ := hcut
  have hn1 : 1 ≤ n := by have := HN.out; omega
  have hn0 : 2 ≤ n := by have := HN.out; omega
  have hn2 : n ≤ 64 := by have := HN.out; omega
  have hn3 : n ≤ len0 + 2 := by have := HN.out; omega
  clear HN
  go_wp2_with fail
  refine (new_in _ o0 1 n hn1 hn2).mono ?_
  rintro e w2 ⟨p, o2, rfl, T2, s2⟩
  have START : TreeS w p n 100 1 w2 := ⟨o2, _, _, T2, Grows.new n, fun _ _ => rfl, t1.trans (s2.posT (by omega))⟩
  clear T2 s2 t1 hb1
  go_wp2
  go_loopg [13] n (fun gh i wr => ∃ m : Nat, i = .int .i64 ((m + 1 : Nat) : Int) ∧ m + 1 ≤ n ∧ gh = n - m ∧ TreeS w p n 100 (m + 1) wr)
  case atStart => exact ⟨0, by go_num, by omega, by omega, START⟩
  case round =>
    clear START
    obtain ⟨m, rfl, hm, rfl, o3, ed, R, T3, G3, N3, t3⟩ := hrel
    by_cases hlt : m + 1 < n
    · have A3 := ha0.at0.step t3 npos
      go_upto_if 62 with fail
      go_cut [14] (fun vc wx => ∃ c : Int, vc = .int .i64 c ∧ (-9223372036854775808 ≤ c ∧ c ≤ 9223372036854775807) ∧ wx = wr)
      case first =>
        by_cases hml0 : m < len0
        · obtain ⟨b, off, rfl, hbl, hob, hcell, hz1, hz2⟩ := A3 m hml0
          have hml : (m : Int) < (len0 : Int) := by omega
          clear A3 T3 G3 t3
          go_wp2
          go_meet
          exact ⟨z m, rfl, ⟨hz1, hz2⟩, rfl⟩
        · have hml : decide ((m : Int) < (len0 : Int)) = false := decide_eq_false (by omega)
          clear A3 T3 G3 t3
          go_wp2
          go_meet
          exact ⟨0, rfl, ⟨by omega, by omega⟩, rfl⟩
      case rest =>
      obtain ⟨c, rfl, hcb, hwc⟩ := hcut
      obtain rfl : wr = _ := hwc.symm
      clear A3
      have hpk := pick_any (c.tdiv 2) (m + 1) wr (tdivk_bd 2 (by omega) hcb.1 hcb.2).1 (tdivk_bd 2 (by omega) hcb.1 hcb.2).2 (by omega) (by omega)
      have hpk2 := pick_any c 2 wr hcb.1 hcb.2 (by omega) (by omega)
      have hpk8 := pick_any (c.tdiv 8) 9 wr (tdivk_bd 8 (by omega) hcb.1 hcb.2).1 (tdivk_bd 8 (by omega) hcb.1 hcb.2).2 (by omega) (by omega)
      have ecast : (((m + 1 : Nat)) : Int) = (m : Int) + 1 := by omega
      rw [ecast] at hpk
      have hT3 : Rt (liveN n ed) R := by obtain ⟨_, _, _, _, _, _, F⟩ := T3; exact F.rt
      have ni := N3 (100 + (m + 1)) (by omega)
      have HL : Hid (∀ (r wt : Nat), r < m + 1 → wt < 9 → (Calls Try.prog 15 #[.pointer (some ⟨p, 0, none⟩), .int .i64 (r : Nat), .int .i64 ((m : Int) + 1), .int .i64 (100 + ((m : Int) + 1)), .int .i64 (wt : Nat)] wr fun e w' => e = .returned (.int .i64 0) ∧ TreeS w p n 100 (m + 1 + 1) w') ∧
          (Calls Try.prog 15 #[.pointer (some ⟨p, 0, none⟩), .int .i64 ((m : Int) + 1), .int .i64 (r : Nat), .int .i64 (100 + ((m : Int) + 1)), .int .i64 (wt : Nat)] wr fun e w' => e = .returned (.int .i64 0) ∧ TreeS w p n 100 (m + 1 + 1) w')) := fun r wt hr hwt => by
        have e1 : ((100 + (m + 1) : Nat) : Int) = 100 + ((m : Int) + 1) := by omega
        have l1 := link_in wr o3 1 p n ed R (m + 1 - 1) r (m + 1) (100 + (m + 1)) (wt : Nat) T3 (by omega) hlt (by omega) (by omega) (G3.ne hlt hr) ni (by omega)
        have l2 := link_in wr o3 1 p n ed R (m + 1 - 1) (m + 1) r (100 + (m + 1)) (wt : Nat) T3 hlt (by omega) (by omega) (by omega) (Ne.symm (G3.ne hlt hr)) ni (by omega)
        rw [e1, ecast] at l1 l2
        refine ⟨l1.mono ?_, l2.mono ?_⟩
        · rintro e w' ⟨rfl, o', T', s'⟩
          refine ⟨rfl, o', _, _, T', G3.link hT3 hlt (by omega) (.inl ⟨hr, rfl⟩), fun id hid => ?_, t3.trans (s'.posT (by omega))⟩
          rw [upd_other _ _ (by omega)]; exact N3 id (by omega)
        · rintro e w' ⟨rfl, o', T', s'⟩
          refine ⟨rfl, o', _, _, T', G3.link hT3 hlt (by omega) (.inr ⟨rfl, hr⟩), fun id hid => ?_, t3.trans (s'.posT (by omega))⟩
          rw [upd_other _ _ (by omega)]; exact N3 id (by omega)
      clear T3 G3 N3 t3 hT3 ni ecast ha0
      go_wp2_with fail
      refine hpk.mono ?_
      rintro e w4 ⟨r, hr, rfl, hw4⟩
      obtain rfl : wr = w4 := hw4.symm
      clear hpk
      go_wp2_with fail
      refine hpk2.mono ?_
      rintro e w5 ⟨r2, hr2, rfl, hw5⟩
      obtain rfl : wr = w5 := hw5.symm
      clear hpk2
      by_cases h0 : r2 = 0
      · subst h0
        go_wp2_with fail
        refine hpk8.mono ?_
        rintro e w6 ⟨wt, hwt, rfl, hw6⟩
        obtain rfl : wr = w6 := hw6.symm
        have hlk := (HL.out r wt hr hwt).1
        clear hpk8 HL
        go_wp2_with fail
        refine hlk.mono ?_
        rintro e w7 ⟨rfl, RR⟩
        clear hlk
        go_wp2
        go_roundg (n - (m + 1))
        case measure => omega
        case rel => exact ⟨m + 1, by go_num, by omega, rfl, RR⟩
      · obtain rfl : r2 = 1 := by omega
        go_wp2_with fail
        refine hpk8.mono ?_
        rintro e w6 ⟨wt, hwt, rfl, hw6⟩
        obtain rfl : wr = w6 := hw6.symm
        have hlk := (HL.out r wt hr hwt).2
        clear hpk8 HL
        go_wp2_with fail
        refine hlk.mono ?_
        rintro e w7 ⟨rfl, RR⟩
        clear hlk
        go_wp2
        go_roundg (n - (m + 1))
        case measure => omega
        case rel => exact ⟨m + 1, by go_num, by omega, rfl, RR⟩
    · have hmn : m + 1 = n := by omega
      rw [hmn] at G3 N3 T3
      have hpu := pick_any cu n wr hcu.1 hcu.2 (by omega) (by omega)
      have hpv := pick_any cv n wr hcv.1 hcv.2 (by omega) (by omega)
      have hpr := pick_any cr n wr hcr.1 hcr.2 (by omega) (by omega)
      have hT3 : Rt (liveN n ed) R := by obtain ⟨_, _, _, _, _, _, F⟩ := T3; exact F.rt
      have hA3 : EdOk n ed ∧ Alt n ed R := T3.1.2.2
      rw [hmn]
      clear hlt hm hmn ha0
      go_wp2_with fail
      refine hpu.mono ?_
      rintro e w4 ⟨u, hu, rfl, hw4⟩
      obtain rfl : wr = w4 := hw4.symm
      clear hpu
      go_wp2_with fail
      refine hpv.mono ?_
      rintro e w5 ⟨v, hv, rfl, hw5⟩
      obtain rfl : wr = w5 := hw5.symm
      clear hpv
      go_wp2_with fail
      refine hpr.mono ?_
      rintro e w6 ⟨r, hr, rfl, hw6⟩
      obtain rfl : wr = w6 := hw6.symm
      clear hpr
      have huv := G3.one u v hu hv
      have hur := G3.one u r hu hr
      have hvr := G3.one v r hv hr
      have h0r := G3.one 0 r (by omega) hr
      go_wp2_with fail
      refine (root_in wr o3 1 p n ed R _ u T3 hu).mono ?_
      rintro e w7 ⟨x7, rfl, hx7, T7, s7⟩
      have t7 := t3.trans (s7.posT (by omega))
      clear T3 t3 s7
      go_wp2_with fail
      refine (path_in w7 o3 1 p n ed R _ u v 5000000000001 T7 hu hv huv (TL.no (by omega))).mono ?_
      rintro e w8 ⟨va, o8, rfl, r8, T8, s8⟩
      have t8 := t7.trans (s8.posW (by omega) (by omega))
      have v8 := r8.vw
      clear T7 t7 s8 r8
      go_wp2_with fail
      refine (most_gen w8 o8 1 p n ed R _ u v 5000000000009 T8 hu hv huv (TL.no (by omega))).mono ?_
      rintro e w9 ⟨xa, xb, xc, xd, xg, o9, rfl, hM9, T9, s9⟩
      have t9 := t8.trans (s9.posW (by omega) (by omega))
      have v9 := v8.step s9 (fun h => h.elim (TL.no (by omega)) (by omega))
      clear T8 t8 s9 v8
      have nX := newStep (fun _ => False) w9 o9 5000000000003 (.cells #[.int .i64 xa, .int .i64 xb, .int .i64 xc, .int .i64 xd] 42)
      have BX : Blk (w9.alloc (.cells #[.int .i64 xa, .int .i64 xb, .int .i64 xc, .int .i64 xd] 42)) (newLab w9 o9 5000000000003) 5000000000003 w9.heap.size (.cells #[.int .i64 xa, .int .i64 xb, .int .i64 xc, .int .i64 xd] 42 (0, 0)) := ⟨heap_alloc_new w9 _, newLab_new (Nat.le_refl _)⟩
      have TX := T9.step nX (fun _ _ => id)
      have tX := t9.trans nX.pos0
      have vX := v9.step nX id
      generalize newLab w9 o9 5000000000003 = oX at nX BX TX tX vX
      clear T9 t9 v9 nX
      go_wp2_with fail
      refine (root_in _ oX 1 p n ed R _ v TX hv).mono ?_
      rintro e w10 ⟨x10, rfl, hx10, T10, s10⟩
      have t10 := tX.trans (s10.posT (by omega))
      have B10 := BX.step s10 (TL.no (by omega))
      have v10 := vX.step s10 (TL.no (by omega))
      obtain rfl : x10 = x7 := by
        have := hx7.2.symm.trans (huv.trans hx10.2)
        simp at this; omega
      clear TX tX s10 BX vX hx10 hx7
      go_wp2_with fail
      refine (evert_in w10 oX 1 p n ed R _ r T10 hr).mono ?_
      rintro e w11 ⟨rfl, T11, s11⟩
      have t11 := t10.trans (s11.posT (by omega))
      have B11 := B10.step s11 (TL.no (by omega))
      have v11 := v10.step s11 (TL.no (by omega))
      have hT11 := hT3.turn (liveN_v (ed := ed) hr)
      have hvu11 : (turnR R (2 * r + 1) (2 * v + 1)).head? = (turnR R (2 * r + 1) (2 * u + 1)).head? := by
        rw [hT3.turn_head (liveN_v hr) (liveN_v hv) hvr, hT3.turn_head (liveN_v hr) (liveN_v hu) hur]
      have hW : way (turnR R (2 * r + 1)) v u = (way R u v).reverse := by
        rw [way_evert hT3 hv hu hr hvr hur, way_back hT3 hu hv huv]
      have h011 : (turnR R (2 * r + 1) (2 * 0 + 1)).head? = some (2 * r + 1) := hT3.turn_head (liveN_v hr) (liveN_v (show 0 < n by omega)) h0r
      clear T10 t10 s11 B10 v10
      go_wp2_with fail
      refine (path_in w11 oX 1 p n ed _ _ v u 5000000000002 T11 hv hu hvu11 (TL.no (by omega))).mono ?_
      rintro e w12 ⟨vb, o12, rfl, r12, T12, s12⟩
      have t12 := t11.trans (s12.posW (by omega) (by omega))
      have B12 := B11.step s12 (fun h => h.elim (TL.no (by omega)) (by omega))
      have v12 := v11.step s12 (fun h => h.elim (TL.no (by omega)) (by omega))
      rw [hW, idl_reverse] at r12
      have u12 := r12.vw
      clear T11 t11 s12 B11 v11 r12
      go_wp2_with fail
      refine (most_gen w12 o12 1 p n ed _ _ v u 5000000000009 T12 hv hu hvu11 (TL.no (by omega))).mono ?_
      rintro e w13 ⟨ya, yb, yc, yd, yg, o13, rfl, hM13, T13, s13⟩
      have t13 := t12.trans (s13.posW (by omega) (by omega))
      have B13 := B12.step s13 (fun h => h.elim (TL.no (by omega)) (by omega))
      have v13 := v12.step s13 (fun h => h.elim (TL.no (by omega)) (by omega))
      have u13 := u12.step s13 (fun h => h.elim (TL.no (by omega)) (by omega))
      rw [hW] at hM13
      obtain ⟨rfl, rfl, rfl, rfl, rfl⟩ := hM9.uniq hM13 (fun x => List.mem_reverse)
      clear T12 t12 s13 B12 v12 u12 hM13
      have nY := newStep (fun _ => False) w13 o13 5000000000004 (.cells #[.int .i64 xa, .int .i64 xb, .int .i64 xc, .int .i64 xd] 42)
      have BY : Blk (w13.alloc (.cells #[.int .i64 xa, .int .i64 xb, .int .i64 xc, .int .i64 xd] 42)) (newLab w13 o13 5000000000004) 5000000000004 w13.heap.size (.cells #[.int .i64 xa, .int .i64 xb, .int .i64 xc, .int .i64 xd] 42 (0, 0)) := ⟨heap_alloc_new w13 _, newLab_new (Nat.le_refl _)⟩
      have TY := T13.step nY (fun _ _ => id)
      have tY := t13.trans nY.pos0
      have vY := v13.step nY id
      have uY := u13.step nY id
      have BXY := B13.step nY id
      generalize newLab w13 o13 5000000000004 = oY at nY BY TY tY vY uY BXY
      clear T13 t13 v13 u13 B13 nY
      go_wp2_with fail
      refine (root_in _ oY 1 p n ed _ _ 0 TY (by omega)).mono ?_
      rintro e w14 ⟨x14, rfl, hx14, T14, s14⟩
      have t14 := (tY.trans (s14.posT (by omega))).old
      have v14 := vY.step s14 (TL.no (by omega))
      have u14 := uY.step s14 (TL.no (by omega))
      have B14 := BXY.step s14 (TL.no (by omega))
      have C14 := BY.step s14 (TL.no (by omega))
      obtain rfl : x14 = r := by
        have := hx14.2.symm.trans h011
        simp at this; omega
      obtain ⟨⟨p0, p1, p2, p3⟩, _⟩ := B14.cell4
      obtain ⟨⟨q0, q1, q2, q3⟩, _⟩ := C14.cell4
      clear TY tY s14 vY uY BXY BY B14 C14 T14 hx14 h011
      have hend : (u = v ∧ idl (way R u v) = [] ∧ xg = 54) ∨ (u ≠ v ∧ idl (way R u v) ≠ [] ∧ xg = 0) := by
        rcases hM9 with ⟨a, _, _, _, _, b⟩ | ⟨a, b, _⟩
        · refine .inl ⟨a, ?_, b⟩
          rw [← a, way_self hT3 hu]; simp [idl]
        · exact .inr ⟨a, idl_ne (way_edge hA3.2 hA3.1 hT3 hu hv a huv), b⟩
      have hlen : (idl (way R u v)).length ≤ 4000000000000 := by
        have := len_le_of_nodup 3000000000000 (way R u v) (by rw [way_turn huv]; exact (hT3.turn (liveN_v hu)).nodup _ (liveN_v hv)) (fun k hk => by
          rw [way_turn huv] at hk
          have := (hA3.1.small hn2) k ((hT3.turn (liveN_v hu)).mem _ (liveN_v hv) k hk)
          omega)
        have h2 : (idl (way R u v)).length ≤ (way R u v).length := by unfold idl; rw [List.length_map]; exact List.length_filter_le _ _
        omega
      clear hM9 hW hvu11 hT11 hA3 hT3 hur hvr h0r huv
      generalize idl (way R u v) = A at v14 u14 hend hlen
      clear G3 N3
      obtain ⟨aa, ca, rfl, hca, hma, hpa⟩ := v14
      obtain ⟨ab, cb, rfl, hcb, hmb, hpb⟩ := u14
      unfold maxLen at hma hmb
      have HC : Hid (∀ k, k < A.length → ∃ (x : Nat) (g off g2 off2 : Nat), aa = some ⟨g, off, none⟩ ∧ ab = some ⟨g2, off2, none⟩ ∧ w14.cell? ⟨g, off + k, none⟩ = some (.int .i64 (x : Nat)) ∧ w14.cell? ⟨g2, off2 + (A.length - 1 - k), none⟩ = some (.int .i64 (x : Nat))) := fun k hk => by
        obtain ⟨g, off, e1, _, _, c1⟩ := hpa (by omega)
        obtain ⟨g2, off2, e2, _, _, c2⟩ := hpb (by rw [List.length_reverse]; omega)
        refine ⟨A[k], g, off, g2, off2, e1, e2, c1 k hk, ?_⟩
        rw [c2 (A.length - 1 - k) (by rw [List.length_reverse]; omega), List.getElem_reverse]
        have : A.length - 1 - (A.length - 1 - k) = k := by omega
        simp only [this]
      clear hpa hpb
      rw [List.length_reverse] at hcb ⊢
      generalize hAl : A.length = al at hca hcb HC hlen ⊢
      have HE : Hid ((u = v ∧ al = 0 ∧ xg = 54) ∨ (u ≠ v ∧ al ≠ 0 ∧ xg = 0)) := by
        rcases hend with ⟨a, b, c⟩ | ⟨a, b, c⟩
        · exact .inl ⟨a, by rw [← hAl, b]; rfl, c⟩
        · exact .inr ⟨a, fun z => b (List.eq_nil_of_length_eq_zero (hAl.trans z)), c⟩
      clear hend hAl
      go_wp2
      go_loopw [32] (fun vk wr => ∃ k : Nat, k ≤ al ∧ vk = .int .i64 (k : Nat) ∧ ∃ m, wr = w14.drewN m) (fun vk _ => al - (intOf vk).toNat)
      case atStart => exact ⟨0, by omega, by go_num, 0, rfl⟩
      case round =>
        obtain ⟨k, hk, rfl, mm, rfl⟩ := hrel
        by_cases hlt : k < al
        · obtain ⟨x, g, off, g2, off2, rfl, rfl, c1, c2⟩ := HC.out k hlt
          have b1 : (k : Int) < (al : Int) := by omega
          have b2 : (al : Int) - 1 - (k : Int) = ((al - 1 - k : Nat) : Int) := by omega
          have b3 : ((al - 1 - k : Nat) : Int) < (al : Int) := by omega
          clear HC
          go_wp2
          go_quiet (fail)
          go_wp2
          go_roundw
          case rel => (try ((repeat apply Exists.intro); refine ⟨?_, rfl⟩)); exact ⟨k + 1, by omega, by go_num, _, rfl⟩
          case measure => simp [intOf]; omega
        · have t15 := below_drew t14 mm
          rcases HE.out with ⟨uv, a0, g0⟩ | ⟨uv, a0, g0⟩
          · subst uv
            subst a0
            subst g0
            obtain rfl : k = 0 := by omega
            clear HC HE t14 p0 p1 p2 p3 q0 q1 q2 q3
            go_wp2
            go_ret
            exact ⟨ret_bool (by simp), t15⟩
          · subst g0
            obtain rfl : k = al := by omega
            have e1 : ((k : Int) == 0) = false := by simp only [beq_eq_false_iff_ne, ne_eq]; omega
            have e2 : ((u : Int) == (v : Int)) = false := by simp only [beq_eq_false_iff_ne, ne_eq]; omega
            clear HC HE t14 p0 p1 p2 p3 q0 q1 q2 q3
            go_wp2
            go_ret
            exact ⟨ret_bool (by simp; omega), t15⟩

end Go.Proofs.Ytddjaldamfileaa
