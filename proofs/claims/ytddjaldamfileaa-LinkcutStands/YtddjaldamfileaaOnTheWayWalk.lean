/- The walk of the law LinkcutOnTheWay. -/
import Derived.Test.YtddjaldamfileaaOnTheWayM
namespace Go.Proofs.Ytddjaldamfileaa
open Go.ChangeShapes Go.WideShapes Go.ChangeAt Go.RowKit Go.Maps
set_option linter.unusedVariables false

/-- The list of edges against those that there are: the IDs from one on. -/
structure LE (i : Nat) (ed : Nat → Option Ed) (l : List (Nat × Ed)) : Prop where
  len : l.length + 1 = i
  at_ : ∀ j, ∀ h : j < l.length, l[j].1 = j + 1 ∧ ed (j + 1) = some l[j].2
  no : ∀ k, i ≤ k ∨ k = 0 → ed k = none
theorem LE.snoc {i : Nat} {ed : Nat → Option Ed} {l : List (Nat × Ed)} (h : LE i ed l) (x : Ed) : LE (i + 1) (upd ed i (some x)) (l ++ [(i, x)]) := by
  have hl := h.len
  refine ⟨by simp; omega, fun j hj => ?_, fun k hk => ?_⟩
  · by_cases e : j = l.length
    · subst e
      rw [List.getElem_append_right (Nat.le_refl _)]
      simp only [Nat.sub_self, List.getElem_cons_zero]
      rw [hl, upd_same]; exact ⟨rfl, rfl⟩
    · have hj2 : j < l.length := by simp at hj; omega
      rw [List.getElem_append_left hj2, upd_other _ _ (by omega)]
      exact h.at_ j hj2
  · rw [upd_other _ _ (by omega)]; exact h.no k (by omega)
theorem LE.has {i : Nat} {ed : Nat → Option Ed} {l : List (Nat × Ed)} (h : LE i ed l) {k : Nat} {y : Ed} (hk : ed k = some y) {r : Int} (hr : IdIs l (k : Nat) r) : ∃ j, ∃ hj : j < l.length, r = (j : Nat) ∧ l[j].2 = y := by
  have hl := h.len
  have k1 : 1 ≤ k ∧ k < i := by
    by_cases q : i ≤ k ∨ k = 0
    · rw [h.no k q] at hk; simp at hk
    · omega
  rcases hr with ⟨j, hj, e1, e2, _⟩ | ⟨_, e2⟩
  · obtain ⟨a, b⟩ := h.at_ j hj
    refine ⟨j, hj, e1, ?_⟩
    have : j + 1 = k := by omega
    rw [this, hk] at b
    simp at b; exact b.symm
  · have hj : k - 1 < l.length := by omega
    have := h.at_ (k - 1) hj
    exact absurd (by omega) (e2 (k - 1) hj)
/-- The tree and the list so far. -/
def TreeL (w : World) (p n i : Nat) (vl : Value) (wr : World) : Prop := ∃ o' ed R l, Tx wr o' 1 p n ed R (i - 1) ∧ Grows n i R ∧ LE i ed l ∧ Row wr o' 5000000000010 42 4 vl l.length (elv l) ∧ Step Pos w o0 wr o'
theorem Vw.take {w : World} {o : Nat → Nat} {i g off cap : Nat} {xs : List Nat} (h : Vw w o i (.slice (some ⟨g, off, none⟩) xs.length cap) xs) (k : Nat) (hk : k ≤ xs.length) : Vw w o i (.slice (some ⟨g, off, none⟩) k cap) (xs.take k) := by
  obtain ⟨ao, c2, e, h1, h2, h3⟩ := h
  simp only [Value.slice.injEq, true_and] at e
  obtain ⟨rfl, rfl⟩ := e
  have hl : (xs.take k).length = k := by simp [hk]
  refine ⟨_, cap, by rw [hl], by omega, h2, fun h0 => ?_⟩
  obtain ⟨g', off', e1, e2, e3, e4⟩ := h3 (by omega)
  refine ⟨g', off', e1, e2, e3, fun j hj => ?_⟩
  rw [e4 j (by omega)]; simp
theorem Vw.drop {w : World} {o : Nat → Nat} {i g off cap : Nat} {xs : List Nat} (h : Vw w o i (.slice (some ⟨g, off, none⟩) xs.length cap) xs) (k : Nat) (hk : k < xs.length) : Vw w o i (.slice (some ⟨g, off + k, none⟩) (xs.length - k) (cap - k)) (xs.drop k) := by
  obtain ⟨ao, c2, e, h1, h2, h3⟩ := h
  simp only [Value.slice.injEq, true_and] at e
  obtain ⟨rfl, rfl⟩ := e
  have hl : (xs.drop k).length = xs.length - k := by simp
  refine ⟨_, cap - k, by rw [hl], by omega, by omega, fun h0 => ?_⟩
  obtain ⟨g', off', e1, e2, e3, e4⟩ := h3 (by omega)
  simp only [Option.some.injEq, Addr.mk.injEq, and_true] at e1
  obtain ⟨rfl, rfl⟩ := e1
  refine ⟨g, off + k, rfl, e2, e3, fun j hj => ?_⟩
  rw [Nat.add_assoc, e4 (k + j) (by omega)]; simp

theorem MostIs.two {ed : Nat → Option Ed} {W W1 W2 : List Nat} {u v x : Nat} {a b c d g a1 b1 c1 d1 g1 a2 b2 c2 d2 g2 : Int} (h : MostIs ed W u v a b c d g) (k1 : MostIs ed W1 u x a1 b1 c1 d1 g1) (k2 : MostIs ed W2 x v a2 b2 c2 d2 g2) (n0 : u ≠ v) (n1 : u ≠ x) (n2 : x ≠ v) (e : ∀ y, y ∈ W2 ++ W1 ↔ y ∈ W) :
    g = 0 ∧ g1 = 0 ∧ g2 = 0 ∧ ((d1 < d2 ∨ (d2 = d1 ∧ a1 < a2)) → a2 = a ∧ b2 = b ∧ c2 = c ∧ d2 = d) ∧ (¬ (d1 < d2 ∨ (d2 = d1 ∧ a1 < a2)) → a1 = a ∧ b1 = b ∧ c1 = c ∧ d1 = d) := by
  obtain ⟨_, hg, t, ht, h2, h3, h4, h5⟩ := h.resolve_left (fun z => n0 z.1)
  obtain ⟨_, hg1, t1, ht1, q2, q3, q4, q5⟩ := k1.resolve_left (fun z => n1 z.1)
  obtain ⟨_, hg2, t2, ht2, r2, r3, r4, r5⟩ := k2.resolve_left (fun z => n2 z.1)
  have key := ((ht2.1.hvr ht1.1).congr (fun y => (e y).symm)).uniq ht.1
  have e1 : t1 % 2 = 0 := by rcases ht1.1 with z | z; exact absurd z.1 ht1.2; exact z.2.2.1
  have e2 : t2 % 2 = 0 := by rcases ht2.1 with z | z; exact absurd z.1 ht2.2; exact z.2.2.1
  unfold hvr at key
  rw [if_neg ht2.2, if_neg ht1.2] at key
  have n1 := ht1.2
  have n2 := ht2.2
  refine ⟨hg, hg1, hg2, fun hc => ?_, fun hc => ?_⟩
  · rw [if_pos (by omega)] at key
    subst key
    exact ⟨by omega, by omega, by omega, by omega⟩
  · rw [if_neg (by omega)] at key
    subst key
    exact ⟨by omega, by omega, by omega, by omega⟩
/-- What stands in memory while the way is looked at. -/
def LkS (w : World) (p n : Nat) (ed : Nat → Option Ed) (R : Nat → List Nat) (l : List (Nat × Ed)) (vl va : Value) (X : List Nat) (bX : Nat) (xa xb xc xd : Int) (wr : World) : Prop :=
  ∃ o', Tx wr o' 1 p n ed R (n - 1) ∧ Vw wr o' 5000000000001 va X ∧ Row wr o' 5000000000010 42 4 vl l.length (elv l) ∧ Blk wr o' 5000000000003 bX (.cells #[.int .i64 xa, .int .i64 xb, .int .i64 xc, .int .i64 xd] 42 (0, 0)) ∧ Step Pos w o0 wr o'

theorem idl_nodup {X : List Nat} (hn : X.Nodup) (h0 : ∀ k ∈ X, k ≠ 0) : (idl X).Nodup := by
  unfold idl List.Nodup
  rw [List.pairwise_map]
  refine (List.Pairwise.filter _ hn).imp_of_mem fun {a b} ha hb hab e => hab ?_
  have h1 := List.mem_filter.1 ha
  have h2 := List.mem_filter.1 hb
  have a0 := h0 a h1.1
  have b0 := h0 b h2.1
  have e1 : a % 2 = 0 := by simpa using h1.2
  have e2 : b % 2 = 0 := by simpa using h2.2
  omega
theorem mem_idl {X : List Nat} {k : Nat} (h : k ∈ idl X) (h0 : ∀ k ∈ X, k ≠ 0) : 2 * k + 2 ∈ X := by
  unfold idl at h
  obtain ⟨a, ha, rfl⟩ := List.mem_map.1 h
  have h1 := List.mem_filter.1 ha
  have a0 := h0 a h1.1
  have e1 : a % 2 = 0 := by simpa using h1.2
  have : 2 * ((a - 2) / 2) + 2 = a := by omega
  rw [this]; exact h1.1
theorem new_four_at {w : World} {s : Nat} (hs : w.heap.size = s) (x y z u : Value) (t : TypeId) : ∀ j v, [x, y, z, u][j]? = some v → (w.alloc (.cells #[x, y, z, u] t)).cell? ((⟨s, 0, none⟩ : Addr).add j) = some v := by
  subst hs
  intro j v hj
  match j, hj with
  | 0, hj => simp at hj; subst hj; simp [Addr.add]
  | 1, hj => simp at hj; subst hj; simp [Addr.add]
  | 2, hj => simp at hj; subst hj; simp [Addr.add]
  | 3, hj => simp at hj; subst hj; simp [Addr.add]

set_option maxRecDepth 100000 in
set_option maxHeartbeats 4000000 in
theorem onTheWay_walk (w : World) (cu cv : Int) (a0 : Option Addr) (len0 cap0 : Nat) (z : Nat → Int) (ha0 : Arg w a0 len0 z) (h1 : len0 ≤ 9223372036854775807) (hcu : -9223372036854775808 ≤ cu ∧ cu ≤ 9223372036854775807) (hcv : -9223372036854775808 ≤ cv ∧ cv ≤ 9223372036854775807) :
    Calls Try.prog 6 #[.slice a0 len0 cap0, .int .i64 cu, .int .i64 cv] w fun e w' => e = .returned (.bool true) ∧ Below w.heap.size w w' := by
  have npos : ¬ Pos 0 := by unfold Pos; omega
  obtain ⟨ie, hie, hze0, hze1, hze2⟩ := info_parts infoEdge
  obtain ⟨n, hn⟩ : ∃ n, n = 2 + min len0 62 := ⟨_, rfl⟩
  have HN : Hid (n = 2 + min len0 62) := hn
  clear hn
  go_enter Try.func6, Try.ntmps6
  go_wp2_with fail
  refine (awake_any w).mono ?_
  rintro e w1 ⟨rfl, hb1⟩
  have t1 : Step Pos w o0 w1 o0 := Step.ofBelow o0 hb1
  go_upto_region 2 with fail
  go_cut [8] (fun v wx => v = .int .i64 n ∧ wx = w1)
  case first =>
    go_wp2
    all_goals
      go_meet
      exact ⟨by first | rw [show (64 : Int) = (n : Int) by have := HN.out; omega] | rw [show (2 + (len0 : Int)) = (n : Int) by have := HN.out; omega], rfl⟩
  case rest =>
  obtain ⟨rfl, rfl⟩ := hcut
  have hn1 : 1 ≤ n := by have := HN.out; omega
  have hn0 : 2 ≤ n := by have := HN.out; omega
  have hn2 : n ≤ 64 := by have := HN.out; omega
  have hn3 : n ≤ len0 + 2 := by have := HN.out; omega
  clear HN
  go_wp2_with fail
  refine (new_in _ o0 1 n hn1 hn2).mono ?_
  rintro e w2 ⟨p, o2, rfl, T2, s2⟩
  have START : TreeL w p n 1 (.slice none 0 0) w2 := ⟨o2, _, _, [], T2, Grows.new n, ⟨rfl, fun j h => by simp at h, fun _ _ => rfl⟩, Row.nil _ _ _ _ _, t1.trans (s2.posT (by omega))⟩
  clear T2 s2 t1 hb1
  go_wp2
  go_loopg [11, 12] n (fun gh vl i wr => ∃ m : Nat, i = .int .i64 ((m + 1 : Nat) : Int) ∧ m + 1 ≤ n ∧ gh = n - m ∧ TreeL w p n (m + 1) vl wr)
  case atStart => exact ⟨0, by go_num, by omega, by omega, START⟩
  case round =>
    clear START
    obtain ⟨m, rfl, hm, rfl, o3, ed, R, l, T3, G3, L3, r3, t3⟩ := hrel
    have ll := L3.len
    by_cases hlt : m + 1 < n
    · have A3 := ha0.at0.step t3 npos
      obtain ⟨al, cl, rfl⟩ := r3.form
      go_upto_if 62 with fail
      go_cut [13] (fun vc wx => ∃ c : Int, vc = .int .i64 c ∧ (-9223372036854775808 ≤ c ∧ c ≤ 9223372036854775807) ∧ wx = wr)
      case first =>
        by_cases hml0 : m < len0
        · obtain ⟨b, off, rfl, hbl, hob, hcell, hz1, hz2⟩ := A3 m hml0
          have hml : (m : Int) < (len0 : Int) := by omega
          clear A3 T3 G3 t3 r3
          go_wp2
          go_meet
          exact ⟨z m, rfl, ⟨hz1, hz2⟩, rfl⟩
        · have hml : decide ((m : Int) < (len0 : Int)) = false := decide_eq_false (by omega)
          clear A3 T3 G3 t3 r3
          go_wp2
          go_meet
          exact ⟨0, rfl, ⟨by omega, by omega⟩, rfl⟩
      case rest =>
      obtain ⟨c, rfl, hcb, hwc⟩ := hcut
      obtain rfl : wr = _ := hwc.symm
      clear A3
      have hpk := pick_any (c.tdiv 8) (m + 1) wr (tdivk_bd 8 (by omega) hcb.1 hcb.2).1 (tdivk_bd 8 (by omega) hcb.1 hcb.2).2 (by omega) (by omega)
      have hpk8 := pick_any c 8 wr hcb.1 hcb.2 (by omega) (by omega)
      have ecast : (((m + 1 : Nat)) : Int) = (m : Int) + 1 := by omega
      rw [ecast] at hpk
      have hT3 : Rt (liveN n ed) R := by obtain ⟨_, _, _, _, _, _, F⟩ := T3; exact F.rt
      have ni := L3.no (m + 1) (.inl (Nat.le_refl _))
      clear ha0
      go_wp2_with fail
      refine hpk.mono ?_
      rintro e w4 ⟨r, hr, rfl, hw4⟩
      obtain rfl : wr = w4 := hw4.symm
      clear hpk
      go_wp2_with fail
      refine hpk8.mono ?_
      rintro e w5 ⟨wt, hwt, rfl, hw5⟩
      obtain rfl : wr = w5 := hw5.symm
      clear hpk8
      have nX := newStep (fun _ => False) wr o3 5000000000011 (.cells #[.int .i64 ((m : Int) + 1), .int .i64 ((m : Int) + 1), .int .i64 (r : Nat), .int .i64 (wt : Nat)] 42)
      have BX : Blk (wr.alloc (.cells #[.int .i64 ((m : Int) + 1), .int .i64 ((m : Int) + 1), .int .i64 (r : Nat), .int .i64 (wt : Nat)] 42)) (newLab wr o3 5000000000011) 5000000000011 wr.heap.size (.cells #[.int .i64 ((m : Int) + 1), .int .i64 ((m : Int) + 1), .int .i64 (r : Nat), .int .i64 (wt : Nat)] 42 (0, 0)) := ⟨heap_alloc_new wr _, newLab_new (Nat.le_refl _)⟩
      have TX := T3.step nX (fun _ _ => id)
      have tX := t3.trans nX.pos0
      have rX := r3.step nX id
      generalize newLab wr o3 5000000000011 = oX at nX BX TX tX rX
      have l2 := link_in _ oX 1 p n ed R (m + 1 - 1) (m + 1) r (m + 1) (wt : Nat) TX hlt (by omega) (by omega) (by omega) (Ne.symm (G3.ne hlt hr)) ni (by omega)
      rw [ecast] at l2
      clear T3 t3 r3 nX TX
      go_wp2_with fail
      refine l2.mono ?_
      rintro e w6 ⟨rfl, o6, T6, s6⟩
      have r6 := rX.step s6 (TL.no (by omega))
      have B6 := BX.step s6 (TL.no (by omega))
      have t6 := tX.trans (s6.posT (by omega))
      obtain ⟨⟨x0, x1, x2, x3⟩, _⟩ := B6.cell4
      have G6 := G3.link (e := m + 1) hT3 hlt (by omega) (.inr ⟨rfl, hr⟩)
      have L6 := L3.snoc ⟨m + 1, r, (wt : Nat)⟩
      clear l2 BX rX tX s6 B6 G3 L3 hT3 ni
      go_wp2_with (first | (at_builtin; refine wpList_append_lab rfl (.tmp 88) (.tmp 90) 40 rfl 42 ie (.agg #[.int .i64 0, .int .i64 0, .int .i64 0, .int .i64 0]) 4 32 Try.underlying40 hie hze0 hze1 hze2 rfl (by decide) o6 5000000000010 _ l.length (elv l) rfl (r6.step (allocStep (fun _ => False) _ o6 _) (by simp)) ⟨w6.heap.size, 0, none⟩ 1 1 [.int .i64 ((m : Int) + 1), .int .i64 ((m : Int) + 1), .int .i64 (r : Nat), .int .i64 (wt : Nat)] rfl rfl ?d1 ?d2 (by decide) ?d3 ?d4 ?_) | go_in)
      case d1 => exact new_four_at rfl _ _ _ _ _
      case d2 => intro u hu; simp at hu; rcases hu with rfl | rfl | rfl | rfl <;> rfl
      case d3 => unfold maxLen; omega
      case d4 => omega
      intro g8 cap8 w8 o8 hr8 hs8
      have s8 := (allocStep (fun k => k = 5000000000010) w6 o6 _).trans hs8
      have RR : TreeL w p n (m + 1 + 1) (.slice (some ⟨g8, 0, none⟩) (m + 1) cap8) w8 := by
        refine ⟨o8, _, _, l ++ [(m + 1, ⟨m + 1, r, (wt : Nat)⟩)], T6.step s8 (fun k hk x => TL.no (by omega) (x ▸ hk)), G6, L6, ?_, t6.trans (s8.mono fun k hk => by unfold Pos; omega)⟩
        have e1 : elv (l ++ [(m + 1, (⟨m + 1, r, (wt : Nat)⟩ : Ed))]) = elv l ++ [.int .i64 ((m : Int) + 1), .int .i64 ((m : Int) + 1), .int .i64 (r : Nat), .int .i64 (wt : Nat)] := by
          rw [elv_snoc]; simp [ev]
        have e2 : (l ++ [(m + 1, (⟨m + 1, r, (wt : Nat)⟩ : Ed))]).length = m + 1 := by simp; omega
        rw [e1, e2]; exact hr8
      clear hr8 hs8 s8 T6 t6 G6 L6 r6 x0 x1 x2 x3
      go_wp2
      go_roundg (n - (m + 1))
      case measure => omega
      case rel => exact ⟨m + 1, by go_num, by omega, rfl, RR⟩
    · have hmn : m + 1 = n := by omega
      have hln : l.length ≤ 64 := by omega
      rw [hmn] at G3 L3 T3
      have hpu := pick_any cu n wr hcu.1 hcu.2 (by omega) (by omega)
      have hpv := pick_any cv n wr hcv.1 hcv.2 (by omega) (by omega)
      have hT3 : Rt (liveN n ed) R := by obtain ⟨_, _, _, _, _, _, F⟩ := T3; exact F.rt
      have hA3 : EdOk n ed ∧ Alt n ed R := T3.1.2.2
      rw [hmn]
      obtain ⟨al, cl, rfl⟩ := r3.form
      clear hlt hm hmn ha0
      go_wp2_with fail
      refine hpu.mono ?_
      rintro e w4 ⟨u, hu, rfl, hw4⟩
      obtain rfl : wr = w4 := hw4.symm
      clear hpu
      go_wp2_with fail
      refine hpv.mono ?_
      rintro e w5 ⟨v, hv, rfl, hw5⟩
      obtain rfl : wr = w5 := hw5.symm
      clear hpv
      have huv := G3.one u v hu hv
      by_cases uv : u = v
      · subst uv
        have t4 := t3.old
        clear T3 G3 r3 t3
        go_wp2
        go_ret
        exact ⟨rfl, t4⟩
      · have uvd : ((u : Int) == (v : Int)) = false := by simp only [beq_eq_false_iff_ne, ne_eq]; omega
        go_wp2_with fail
        refine (path_in wr o3 1 p n ed R _ u v 5000000000001 T3 hu hv huv (TL.no (by omega))).mono ?_
        rintro e w8 ⟨va, o8, rfl, r8, T8, s8⟩
        have t8 := t3.trans (s8.posW (by omega) (by omega))
        have v8 := r8.vw
        have l8 := r3.step s8 (fun h => h.elim (TL.no (by omega)) (by omega))
        clear T3 t3 s8 r8 r3
        have hne := way_edge hA3.2 hA3.1 hT3 hu hv uv huv
        go_wp2_with fail
        refine (most_gen w8 o8 1 p n ed R _ u v 5000000000009 T8 hu hv huv (TL.no (by omega))).mono ?_
        rintro e w9 ⟨xa, xb, xc, xd, xg, o9, rfl, hM9, T9, s9⟩
        obtain rfl : xg = 0 := (hM9.resolve_left (fun z => uv z.1)).2.1
        have t9 := t8.trans (s9.posW (by omega) (by omega))
        have v9 := v8.step s9 (fun h => h.elim (TL.no (by omega)) (by omega))
        have l9 := l8.step s9 (fun h => h.elim (TL.no (by omega)) (by omega))
        clear T8 t8 s9 v8 l8
        have nX := newStep (fun _ => False) w9 o9 5000000000003 (.cells #[.int .i64 xa, .int .i64 xb, .int .i64 xc, .int .i64 xd] 42)
        have BX : Blk (w9.alloc (.cells #[.int .i64 xa, .int .i64 xb, .int .i64 xc, .int .i64 xd] 42)) (newLab w9 o9 5000000000003) 5000000000003 w9.heap.size (.cells #[.int .i64 xa, .int .i64 xb, .int .i64 xc, .int .i64 xd] 42 (0, 0)) := ⟨heap_alloc_new w9 _, newLab_new (Nat.le_refl _)⟩
        have TX := T9.step nX (fun _ _ => id)
        have tX := t9.trans nX.pos0
        have vX := v9.step nX id
        have lX := l9.step nX id
        generalize newLab w9 o9 5000000000003 = oX at nX BX TX tX vX lX
        clear T9 t9 v9 l9 nX
        have hall := idl_ne hne
        obtain ⟨aa, ca, rfl, hca, hma, hpa⟩ := vX
        have vX : Vw _ oX 5000000000001 (.slice aa (idl (way R u v)).length ca) (idl (way R u v)) := ⟨aa, ca, rfl, hca, hma, hpa⟩
        obtain ⟨ga, fa, rfl, hq1, hq2, hq3⟩ := hpa (List.length_pos_iff.2 hall)
        clear hpa hq1 hq2 hq3
        unfold maxLen at hma
        have hTu := hT3.turn (liveN_v (ed := ed) hu)
        have hwn : (way R u v).Nodup := by rw [way_turn huv]; exact hTu.nodup _ (liveN_v hv)
        have hwl : ∀ k ∈ way R u v, liveN n ed k := by rw [way_turn huv]; exact hTu.mem _ (liveN_v hv)
        have hw0 : ∀ k ∈ way R u v, k ≠ 0 := fun k hk z => by have := hwl k hk; rw [z] at this; unfold liveN at this; simp at this
        have hlen : (idl (way R u v)).length ≤ 4096 := by
          have := len_le_of_nodup n (idl (way R u v)) (idl_nodup hwn hw0) (fun k hk => by
            have h2 := liveN_e.1 (hwl _ (mem_idl hk hw0))
            by_cases q : n ≤ k ∨ k = 0
            · rw [L3.no k q] at h2; simp at h2
            · omega)
          omega
        have START : LkS w p n ed R l (.slice al l.length cl) (.slice (some ⟨ga, fa, none⟩) (idl (way R u v)).length ca) (idl (way R u v)) w9.heap.size xa xb xc xd _ := ⟨oX, TX, vX, lX, BX, tX⟩
        clear TX vX lX BX tX
        have hal0 : (((idl (way R u v)).length : Int) == 0) = false := by
          simp only [beq_eq_false_iff_ne, ne_eq]
          have := List.length_pos_iff.2 hall
          omega
        obtain ⟨b9, hb9⟩ : ∃ b9, b9 = w9.heap.size := ⟨_, rfl⟩
        rw [← hb9] at START
        have HB9 : Hid (b9 = w9.heap.size) := hb9
        clear ll hb9
        generalize hal : (idl (way R u v)).length = alen at *
        go_wp2
        rw [← HB9.out]
        clear HB9
        go_loopg [19, 20] alen (fun gh vat vi wr => ∃ (x i : Nat) (A B : List Nat), vat = .int .i64 (x : Nat) ∧ vi = .int .i64 (i : Nat) ∧ way R u v = A ++ (2 * x + 1) :: B ∧ (idl A).length = i ∧ x < n ∧ gh = alen - i ∧ i ≤ alen ∧ LkS w p n ed R l (.slice al l.length cl) (.slice (some ⟨ga, fa, none⟩) alen ca) (idl (way R u v)) b9 xa xb xc xd wr)
        case atStart =>
          have hh := hT3.turn_head (liveN_v hu) (liveN_v hv) huv.symm
          rw [← way_turn huv] at hh
          cases hW : way R u v with
          | nil => rw [hW] at hh; simp at hh
          | cons a B =>
            rw [hW] at hh; simp at hh; subst hh
            rw [hW] at START
            exact ⟨u, 0, [], B, rfl, by go_num, by simp, rfl, hu, by omega, by omega, START⟩
        case round =>
          clear START
          obtain ⟨x, i, A, B, rfl, rfl, hW, hi, hx, rfl, hia, o10, T10, v10, l10, B10, t10⟩ := hrel
          have hux := G3.one u x hu hx
          have hxv := G3.one x v hx hv
          obtain ⟨c1, c2⟩ := way_cut hT3 hu hv hx huv hux hW
          have eall : idl (way R u v) = idl A ++ idl B := by rw [hW, idl_app, idl_odd]
          have i1 : idl (way R u x) = (idl (way R u v)).take i := by
            rw [c1, idl_app, eall, ← hi, List.take_left']
            · simp [idl]
            · rfl
          have i2 : idl (way R x v) = (idl (way R u v)).drop i := by
            rw [c2, idl_odd, eall, ← hi, List.drop_left']
            rfl
          by_cases hlt : i < alen
          · cases B with
            | nil => exfalso; rw [eall] at hal; simp [idl] at hal hi; omega
            | cons zz B =>
            obtain ⟨ei, y, b, B', rfl, hy, rfl, hbn, hyy⟩ := way_next hA3.2 hA3.1 hT3 hu hv hx huv hW
            have hxv2 : x ≠ v := fun z => by
              subst z
              rw [way_self hT3 hx] at c2
              simp at c2
            have hli : (i : Int) < (alen : Int) := by omega
            go_wp2_with fail
            refine (path_in wr o10 1 p n ed R _ u x 5000000000005 T10 hu hx hux (TL.no (by omega))).mono ?_
            rintro e w11 ⟨va, o11, rfl, r11, T11, s11⟩
            have t11 := t10.trans (s11.posW (by omega) (by omega))
            have v11 := v10.step s11 (fun h => h.elim (TL.no (by omega)) (by omega))
            have l11 := l10.step s11 (fun h => h.elim (TL.no (by omega)) (by omega))
            have B11 := B10.step s11 (fun h => h.elim (TL.no (by omega)) (by omega))
            rw [i1] at r11
            have a11 := r11.vw
            clear T10 v10 l10 B10 t10 s11 r11
            go_wp2_with fail
            refine (path_in w11 o11 1 p n ed R _ x v 5000000000006 T11 hx hv hxv (TL.no (by omega))).mono ?_
            rintro e w12 ⟨vb, o12, rfl, r12, T12, s12⟩
            have t12 := t11.trans (s12.posW (by omega) (by omega))
            have v12 := v11.step s12 (fun h => h.elim (TL.no (by omega)) (by omega))
            have l12 := l11.step s12 (fun h => h.elim (TL.no (by omega)) (by omega))
            have B12 := B11.step s12 (fun h => h.elim (TL.no (by omega)) (by omega))
            have a12 := a11.step s12 (fun h => h.elim (TL.no (by omega)) (by omega))
            rw [i2] at r12
            have b12 := r12.vw
            clear T11 v11 l11 B11 t11 s12 r12 a11
            rw [← hal] at v12
            have w1 := v12.take i (by omega)
            have w2 := v12.drop i (by omega)
            rw [hal] at w2
            rw [hal] at v12
            have sm1 := same_true w12 o12 o12 _ _ _ _ _ a12 w1 (by rw [List.length_take]; omega)
            have HS2 : Hid (∀ mm, Calls Try.prog 23 #[vb, .slice (some ⟨ga, fa + i, none⟩) (alen - i) (ca - i)] (w12.drewN mm) fun e w' => e = .returned (.bool true) ∧ Step (fun _ => False) w12 o12 w' o12) := fun mm => by
              have sd : Step (fun _ => False) w12 o12 (w12.drewN mm) o12 := (Step.refl _ _ _).drewN mm
              refine (same_true _ o12 o12 _ _ _ _ _ (b12.step sd id) (w2.step sd id) (by rw [List.length_drop]; omega)).mono ?_
              rintro e w' ⟨rfl, m3, rfl⟩
              exact ⟨rfl, sd.trans ((Step.refl _ _ _).drewN m3)⟩
            clear a12 w1 b12 w2
            go_wp2_with fail
            refine sm1.mono ?_
            rintro e w13 ⟨rfl, m13, rfl⟩
            clear sm1
            go_wp2_with fail
            refine (HS2.out _).mono ?_
            rintro e w14 ⟨rfl, sd⟩
            clear HS2
            have ST : LkS w p n ed R l (.slice al l.length cl) (.slice (some ⟨ga, fa, none⟩) alen ca) (idl (way R u v)) b9 xa xb xc xd w14 := ⟨o12, T12.step sd (fun _ _ => id), v12.step sd id, l12.step sd id, B12.step sd id, t12.trans sd.pos0⟩
            clear T12 v12 l12 B12 t12 sd
            go_upto_if 172 with fail
            go_cut [] (fun wx => LkS w p n ed R l (.slice al l.length cl) (.slice (some ⟨ga, fa, none⟩) alen ca) (idl (way R u v)) b9 xa xb xc xd wx)
            case first =>
              by_cases i0 : i = 0
              · have d0 : decide ((0 : Int) < (i : Int)) = false := decide_eq_false (by omega)
                go_wp2
                go_meet
                exact ST
              · have d0 : (0 : Int) < (i : Int) := by omega
                have ux : u ≠ x := fun z => by
                  subst z
                  rw [way_self hT3 hu] at c1
                  cases A with
                  | nil => simp [idl] at hi; omega
                  | cons a A => simp at c1
                obtain ⟨o15, T15, v15, l15, B15, t15⟩ := ST
                go_wp2_with fail
                refine (most_gen w14 o15 1 p n ed R _ u x 5000000000009 T15 hu hx hux (TL.no (by omega))).mono ?_
                rintro e w16 ⟨ya, yb, yc, yd, yg, o16, rfl, hM16, T16, s16⟩
                have n16 : ∀ k, k ≠ 5000000000009 → 5000000000000 ≤ k → ¬ (TL 1 k ∨ k = 5000000000009) := fun k h1 h2 h => h.elim (TL.no h2) h1
                have t16 := t15.trans (s16.posW (by omega) (by omega))
                have v16 := v15.step s16 (n16 _ (by omega) (by omega))
                have l16 := l15.step s16 (n16 _ (by omega) (by omega))
                have B16 := B15.step s16 (n16 _ (by omega) (by omega))
                clear T15 v15 l15 B15 t15 s16
                have nX := newStep (fun _ => False) w16 o16 5000000000021 (.cells #[.int .i64 ya, .int .i64 yb, .int .i64 yc, .int .i64 yd] 42)
                have BX : Blk (w16.alloc (.cells #[.int .i64 ya, .int .i64 yb, .int .i64 yc, .int .i64 yd] 42)) (newLab w16 o16 5000000000021) 5000000000021 w16.heap.size (.cells #[.int .i64 ya, .int .i64 yb, .int .i64 yc, .int .i64 yd] 42 (0, 0)) := ⟨heap_alloc_new w16 _, newLab_new (Nat.le_refl _)⟩
                have TX := T16.step nX (fun _ _ => id)
                have tX := t16.trans nX.pos0
                have vX := v16.step nX id
                have lX := l16.step nX id
                have CX := B16.step nX id
                obtain ⟨b16, hb16⟩ : ∃ b16, b16 = w16.heap.size := ⟨_, rfl⟩
                rw [← hb16] at BX
                have HB16 : Hid (b16 = w16.heap.size) := hb16
                clear hb16
                generalize newLab w16 o16 5000000000021 = oX at nX BX TX tX vX lX CX
                clear T16 t16 v16 l16 B16 nX
                go_wp2_with fail
                refine (most_gen _ oX 1 p n ed R _ x v 5000000000009 TX hx hv hxv (TL.no (by omega))).mono ?_
                rintro e w17 ⟨za, zb, zc, zd, zg, o17, rfl, hM17, T17, s17⟩
                rw [← HB16.out]
                clear HB16
                have t17 := tX.trans (s17.posW (by omega) (by omega))
                have v17 := vX.step s17 (n16 _ (by omega) (by omega))
                have l17 := lX.step s17 (n16 _ (by omega) (by omega))
                have B17 := CX.step s17 (n16 _ (by omega) (by omega))
                have D17 := BX.step s17 (n16 _ (by omega) (by omega))
                clear TX vX lX BX tX s17 CX
                have nY := newStep (fun _ => False) w17 o17 5000000000022 (.cells #[.int .i64 za, .int .i64 zb, .int .i64 zc, .int .i64 zd] 42)
                have BY : Blk (w17.alloc (.cells #[.int .i64 za, .int .i64 zb, .int .i64 zc, .int .i64 zd] 42)) (newLab w17 o17 5000000000022) 5000000000022 w17.heap.size (.cells #[.int .i64 za, .int .i64 zb, .int .i64 zc, .int .i64 zd] 42 (0, 0)) := ⟨heap_alloc_new w17 _, newLab_new (Nat.le_refl _)⟩
                have TY := T17.step nY (fun _ _ => id)
                have tY := t17.trans nY.pos0
                have vY := v17.step nY id
                have lY := l17.step nY id
                have CY := B17.step nY id
                have DY := D17.step nY id
                generalize newLab w17 o17 5000000000022 = oY at nY BY TY tY vY lY CY DY
                clear T17 t17 v17 l17 B17 D17 nY
                obtain ⟨g0, g1, g2, hyes, hno⟩ := hM9.two hM16 hM17 uv ux hxv2 (fun k => by
                  rw [c1, c2, hW]
                  simp only [List.mem_append, List.mem_cons, List.not_mem_nil, or_false]
                  exact ⟨fun h => h.elim (fun h => .inr h) (fun h => h.elim .inl (fun h => .inr (.inl h))), fun h => h.elim (fun h => .inr (.inl h)) .inl⟩)
                subst g1
                subst g2
                obtain ⟨⟨y0, y1, y2, y3⟩, yf⟩ := DY.cell4
                obtain ⟨⟨z0, z1, z2, z3⟩, zf⟩ := BY.cell4
                have hvy := heavier_law (w17.alloc (.cells #[.int .i64 za, .int .i64 zb, .int .i64 zc, .int .i64 zd] 42)) oY za zb zc zd ya yb yc yd
                clear hM16 hM17
                go_wp2_with fail
                refine hvy.mono ?_
                rintro e w18 ⟨rfl, sh⟩
                have TZ := TY.step sh (fun _ _ => id)
                have tZ := tY.trans sh.pos0
                have vZ := vY.step sh id
                have lZ := lY.step sh id
                have CZ := CY.step sh id
                have DZ := DY.step sh id
                have EZ := BY.step sh id
                obtain ⟨b17, hb17⟩ : ∃ b17, b17 = w17.heap.size := ⟨_, rfl⟩
                rw [← hb17] at EZ
                rw [← hb17]
                clear hvy TY tY vY lY CY DY BY sh y0 y1 y2 y3 z0 z1 z2 z3 yf zf hb17
                obtain ⟨⟨y0, y1, y2, y3⟩, yf⟩ := DZ.cell4
                obtain ⟨⟨z0, z1, z2, z3⟩, zf⟩ := EZ.cell4
                obtain ⟨⟨k0, k1, k2, k3⟩, _⟩ := CZ.cell4
                by_cases hc : yd < zd ∨ (zd = yd ∧ ya < za)
                · obtain ⟨rfl, rfl, rfl, rfl⟩ := hyes hc
                  rw [decide_eq_true hc]
                  have e0 := DZ.stp2 0 (.int .i64 za)
                  have D1 := DZ.set 0 (.int .i64 za)
                  have e1 := D1.stp2 1 (.int .i64 zb)
                  have D2 := D1.set 1 (.int .i64 zb)
                  have e2 := D2.stp2 2 (.int .i64 zc)
                  have D3 := D2.set 2 (.int .i64 zc)
                  have e3 := D3.stp2 3 (.int .i64 zd)
                  have s4 := ((e0.trans e1).trans e2).trans e3
                  have CW := CZ.step s4 (by omega)
                  obtain ⟨⟨j0, j1, j2, j3⟩, _⟩ := CW.cell4
                  have RR : LkS w p n ed R l (.slice al l.length cl) (.slice (some ⟨ga, fa, none⟩) alen ca) (idl (way R u v)) b9 za zb zc zd _ := ⟨oY, TZ.step s4 (fun k hk z => TL.no (by omega) (z ▸ hk)), vZ.step s4 (by omega), lZ.step s4 (by omega), CW, tZ.trans (s4.mono fun k hk => by unfold Pos; omega)⟩
                  clear hyes hno TZ tZ vZ lZ CZ DZ EZ e0 e1 e2 e3 D1 D2 D3 s4 CW hc
                  go_wp2
                  go_meet
                  exact RR
                · obtain ⟨rfl, rfl, rfl, rfl⟩ := hno hc
                  rw [decide_eq_false hc]
                  have RR : LkS w p n ed R l (.slice al l.length cl) (.slice (some ⟨ga, fa, none⟩) alen ca) (idl (way R u v)) b9 ya yb yc yd _ := ⟨oY, TZ, vZ, lZ, CZ, tZ⟩
                  clear hyes hno TZ tZ vZ lZ CZ DZ EZ hc
                  go_wp2
                  go_meet
                  exact RR
            case rest =>
            clear ST
            obtain ⟨o20, T20, v20, l20, B20, t20⟩ := hcut
            have hei : (idl (way R u v))[i]? = some ei := by
              rw [eall, List.getElem?_append_right (by omega), hi, Nat.sub_self, idl_even]; rfl
            have ca20 : wc.cell? ⟨ga, fa + i, none⟩ = some (.int .i64 (ei : Nat)) := by
              obtain ⟨ax, cx, ee, _, _, q3⟩ := v20
              simp only [Value.slice.injEq] at ee
              obtain ⟨g', f', e1, _, _, e4⟩ := q3 (by omega)
              rw [← ee.1] at e1
              simp only [Option.some.injEq, Addr.mk.injEq, and_true] at e1
              obtain ⟨rfl, rfl⟩ := e1
              have hil : i < (idl (way R u v)).length := by omega
              rw [e4 i hil]
              rw [List.getElem?_eq_getElem hil] at hei
              simp at hei
              rw [hei]
            have hid := id_any wc o20 _ _ l (ei : Nat) l20 (by omega)
            go_wp2_with fail
            refine hid.mono ?_
            rintro e w21 ⟨rr, rfl, hrr, hw21⟩
            obtain rfl : wc = w21 := hw21.symm
            obtain ⟨jj, hjj, rfl, hly⟩ := L3.has hy hrr
            obtain ⟨gl, capl, ee, _, _, _, _, hcl, _⟩ := l20.pos (by omega)
            simp only [Value.slice.injEq, true_and] at ee
            obtain ⟨rfl, rfl⟩ := ee
            have c1' : wc.cell? ⟨gl, jj * 4 + 1, none⟩ = some (.int .i64 (y.u : Nat)) := by
              rw [hcl _ (by omega), elv_get l jj 1 hjj (by omega), ← hly]; rfl
            have c2' : wc.cell? ⟨gl, jj * 4 + 2, none⟩ = some (.int .i64 (y.v : Nat)) := by
              rw [hcl _ (by omega), elv_get l jj 2 hjj (by omega), ← hly]; rfl
            have bj : (jj : Int) < (l.length : Int) := by omega
            obtain ⟨_, yu1, yv1, _⟩ := hA3.1 ei y hy
            obtain ⟨yu, hyu⟩ : ∃ yu, yu = y.u := ⟨_, rfl⟩
            obtain ⟨yv, hyv⟩ : ∃ yv, yv = y.v := ⟨_, rfl⟩
            rw [← hyu] at c1' yu1 hyy
            rw [← hyv] at c2' yv1 hyy
            have hsum : (yu : Int) + (yv : Int) - (x : Int) = (b : Int) := by omega
            have RR : LkS w p n ed R l (.slice (some ⟨gl, 0, none⟩) l.length cl) (.slice (some ⟨ga, fa, none⟩) alen ca) (idl (way R u v)) b9 xa xb xc xd wc := ⟨o20, T20, v20, l20, B20, t20⟩
            have hW2 : way R u v = (A ++ [2 * x + 1, 2 * ei + 2]) ++ (2 * b + 1) :: B' := by rw [hW]; simp
            have hi2 : (idl (A ++ [2 * x + 1, 2 * ei + 2])).length = i + 1 := by rw [idl_app, idl_odd, idl_even]; simp [idl] at hi ⊢; omega
            have db1 : decide ((b : Int) < 0) = false := decide_eq_false (by omega)
            have db2 : decide ((n : Int) ≤ (b : Int)) = false := decide_eq_false (by omega)
            clear T20 v20 l20 B20 t20 hcl hrr hid ca20 hei hyu hyv hly
            go_wp2_with fail
            go_quiet (fail)
            rename_i nq
            have RR2 : LkS w p n ed R l (.slice (some ⟨gl, 0, none⟩) l.length cl) (.slice (some ⟨ga, fa, none⟩) alen ca) (idl (way R u v)) b9 xa xb xc xd (wc.drewN nq) := by
              obtain ⟨o20, T20, v20, l20, B20, t20⟩ := RR
              have sd : Step (fun _ => False) wc o20 (wc.drewN nq) o20 := (Step.refl _ _ _).drewN nq
              exact ⟨o20, T20.step sd (fun _ _ => id), v20.step sd id, l20.step sd id, B20.step sd id, t20.trans sd.pos0⟩
            clear RR c1' c2'
            go_wp2
            go_roundg (alen - (i + 1))
            case measure => omega
            case rel => exact ⟨b, i + 1, _, B', rfl, by go_num, hW2, hi2, hbn, rfl, by omega, RR2⟩
          · obtain rfl : x = v := by
              have hb0 : idl B = [] := by
                rw [eall, List.length_append, hi] at hal
                exact List.eq_nil_of_length_eq_zero (by omega)
              cases B with
              | cons zz B =>
                obtain ⟨ei, y, b, B', rfl, _⟩ := way_next hA3.2 hA3.1 hT3 hu hv hx huv hW
                rw [idl_even] at hb0
                simp at hb0
              | nil =>
                obtain ⟨pv, hpv⟩ := hTu.last _ (liveN_v (ed := ed) hv)
                rw [← way_turn huv, hW] at hpv
                have := (last_eq hpv).2
                omega
            have t21 := t10.old
            have dlt : decide ((i : Int) < (alen : Int)) = false := decide_eq_false (by omega)
            clear T10 v10 l10 B10 t10
            go_wp2
            go_ret
            exact ⟨ret_bool (by simp), t21⟩

end Go.Proofs.Ytddjaldamfileaa
