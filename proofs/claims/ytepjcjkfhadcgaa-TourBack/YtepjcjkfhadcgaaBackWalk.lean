/- The walk of the law TourBack. -/
import Derived.Test.YtepjcjkfhadcgaaSameA
import Derived.Test.YtepjcjkfhadcgaaApp
import Derived.Deep.LoopGhost
namespace Go.Proofs.Ytepjcjkfhadcgaa
open Go.ChangeShapes Go.WideShapes Go.ChangeAt Go.RowKit Go.Maps
set_option linter.unusedVariables false

/-- An argument that is a slice of numbers, under the label nought. -/
def Arg0 (w : World) (o : Nat → Nat) (ao : Option Addr) (len : Nat) (z : Nat → Int) : Prop :=
  ∀ j, j < len → ∃ b off, ao = some ⟨b, off, none⟩ ∧ b < w.heap.size ∧ o b = 0 ∧ w.cell? ⟨b, off + j, none⟩ = some (.int .i64 (z j)) ∧ -9223372036854775808 ≤ z j ∧ z j ≤ 9223372036854775807
theorem Arg0.step {I : Nat → Prop} {w w' : World} {o o' : Nat → Nat} {ao : Option Addr} {len : Nat} {z : Nat → Int} (h : Arg0 w o ao len z) (s : Step I w o w' o') (hi : ¬ I 0) : Arg0 w' o' ao len z := by
  intro j hj
  obtain ⟨b, off, h1, h2, h3, h4, h5⟩ := h j hj
  exact ⟨b, off, h1, Nat.lt_of_lt_of_le h2 s.size, (s.lab b h2).trans h3, (s.cell h2 (by rw [h3]; exact hi) _).trans h4, h5⟩
theorem Arg.at0 {w : World} {ao : Option Addr} {len : Nat} {z : Nat → Int} (h : Arg w ao len z) : Arg0 w o0 ao len z := by
  intro j hj
  obtain ⟨b, off, h1, h2, h4, h5⟩ := h j hj
  exact ⟨b, off, h1, h2, rfl, h4, h5⟩

theorem tdiv_bd {x : Int} (h1 : -9223372036854775808 ≤ x) (h2 : x ≤ 9223372036854775807) : -9223372036854775808 ≤ x.tdiv 2 ∧ x.tdiv 2 ≤ 9223372036854775807 := by
  rcases Int.le_total 0 x with h | h
  · rw [Int.tdiv_eq_ediv_of_nonneg h]; omega
  · have : x.tdiv 2 = -((-x) / 2) := by rw [← Int.tdiv_eq_ediv_of_nonneg (show (0 : Int) ≤ -x by omega), Int.neg_tdiv, Int.neg_neg]
    rw [this]; omega
/-- Walks of one tree. -/
theorem mem_walkY {X : List (Nat × Nat)} {v : Nat} : v ∈ walkY X ↔ (v, v) ∈ X := by
  unfold walkY
  rw [List.mem_map]
  constructor
  · rintro ⟨s, hs, rfl⟩
    obtain ⟨h1, h2⟩ := List.mem_filter.1 hs
    simp at h2
    obtain ⟨a, b⟩ := s
    simp at h2; subst h2; exact h1
  · intro h; exact ⟨(v, v), List.mem_filter.2 ⟨h, by simp⟩, rfl⟩
theorem nodup_walkY {X : List (Nat × Nat)} (h : X.Nodup) : (walkY X).Nodup := by
  unfold walkY List.Nodup
  rw [List.pairwise_map]
  refine List.Pairwise.imp_of_mem (R := fun a b => a ≠ b) (fun ha hb hne e => ?_) (h.filter _)
  obtain ⟨_, h1⟩ := List.mem_filter.1 ha
  obtain ⟨_, h2⟩ := List.mem_filter.1 hb
  simp at h1 h2
  exact hne (Prod.ext (by rw [h1, h2]; exact e) e)
theorem walkY_append (X Z : List (Nat × Nat)) : walkY (X ++ Z) = walkY X ++ walkY Z := by unfold walkY; rw [List.filter_append, List.map_append]
theorem walkY_cons_stop (v : Nat) (X : List (Nat × Nat)) : walkY ((v, v) :: X) = v :: walkY X := by simp [walkY]
theorem walkY_cons_step (u v : Nat) (X : List (Nat × Nat)) (h : u ≠ v) : walkY ((u, v) :: X) = walkY X := by simp [walkY, h]

theorem tdiv3_bd {x : Int} (h1 : -9223372036854775808 ≤ x) (h2 : x ≤ 9223372036854775807) : -9223372036854775808 ≤ x.tdiv 3 ∧ x.tdiv 3 ≤ 9223372036854775807 := by
  rcases Int.le_total 0 x with h | h
  · rw [Int.tdiv_eq_ediv_of_nonneg h]; omega
  · have : x.tdiv 3 = -((-x) / 3) := by rw [← Int.tdiv_eq_ediv_of_nonneg (show (0 : Int) ≤ -x by omega), Int.neg_tdiv, Int.neg_neg]
    rw [this]; omega
/-- All from i on are alone. -/
def Lone (n i : Nat) (Y : Nat → List (Nat × Nat)) : Prop := ∀ j, i ≤ j → j < n → Y j = [(j, j)]
theorem Lone.ne {n ms i k : Nat} {Y : Nat → List (Nat × Nat)} (E : Eu n ms Y) (h : Lone n i Y) (hi : i < n) (hk : k < i) : Y k ≠ Y i := fun e => by
  have := E.self k (by omega)
  rw [e, h i (Nat.le_refl _) hi] at this
  simp at this; omega
theorem Lone.link {n ms i k : Nat} {Y : Nat → List (Nat × Nat)} (E : Eu n ms Y) (h : Lone n i Y) (hi : i < n) (hk : k < i) : Lone n (i + 1) (setY Y (linkX (Y k) (Y i) k i)) := by
  intro j hj hjn
  rw [E.link_at (by omega) hi (by omega), if_neg, h j (by omega) hjn]
  rintro ⟨_, e | e⟩
  · have := E.self k (by omega)
    rw [← e, h j (by omega) hjn] at this
    simp at this; omega
  · have := E.self i hi
    rw [← e, h j (by omega) hjn] at this
    simp at this; omega
/-- The state of the loop. -/
def LoneS (w : World) (p n i : Nat) (wr : World) : Prop := ∃ o' Y D, Tt wr o' 1 p n Y D ∧ Lone n i Y ∧ Step Pos w o0 wr o'
/-- What a link, and its cut, do to two tours. -/
structure BackM (Y Y1 Y2 : Nat → List (Nat × Nat)) (u v : Nat) (A M B : List (Nat × Nat)) (P Q : List Nat) : Prop where
  one : Y1 u = Y1 v
  cut : Y1 v = A ++ (u, v) :: (M ++ (v, u) :: B)
  two : Y2 = setY (setY Y1 M) (A ++ B)
  fst : Y2 u = Y u
  snd : walkY (Y2 v) = v :: Q ++ P
  was : walkY (Y v) = P ++ v :: Q
  nin : v ∉ P
  len : (walkY (Y1 v)).length = (walkY (Y u)).length + (walkY (Y v)).length
theorem backM {n ms u v : Nat} {Y : Nat → List (Nat × Nat)} (E : Eu n ms Y) (hu : u < n) (hv : v < n) (hne : Y u ≠ Y v) :
    ∃ Y2 A M B P Q, BackM Y (setY Y (linkX (Y u) (Y v) u v)) Y2 u v A M B P Q := by
  have huv : u ≠ v := fun e => hne (by rw [e])
  have e1 : setY Y (linkX (Y u) (Y v) u v) u = linkX (Y u) (Y v) u v := by rw [E.link_at hu hv huv, if_pos ⟨hu, .inl rfl⟩]
  have e2 : setY Y (linkX (Y u) (Y v) u v) v = linkX (Y u) (Y v) u v := by rw [E.link_at hu hv huv, if_pos ⟨hv, .inr rfl⟩]
  obtain ⟨eu, nu⟩ := split_at (E.self u hu)
  obtain ⟨ev, nv⟩ := split_at (E.self v hv)
  have eAB : (ahead (Y u) (u, u) ++ [(u, u)]) ++ behind (Y u) (u, u) = Y u := by
    rw [List.append_assoc, List.singleton_append]; exact eu.symm
  have hvu : (v, v) ∉ Y u := fun h => hne ((E.iff hv hu).1 h).symm
  have hT : (v, v) ∈ turnX (Y v) (v, v) := (mem_turnX (E.self v hv)).2 (E.self v hv)
  have wv : walkY (Y v) = walkY (ahead (Y v) (v, v)) ++ v :: walkY (behind (Y v) (v, v)) := by
    conv => lhs; rw [ev]
    rw [walkY_append, walkY_cons_stop]
  have wu : walkY (Y u) = walkY (ahead (Y u) (u, u)) ++ u :: walkY (behind (Y u) (u, u)) := by
    conv => lhs; rw [eu]
    rw [walkY_append, walkY_cons_stop]
  refine ⟨_, ahead (Y u) (u, u) ++ [(u, u)], turnX (Y v) (v, v), behind (Y u) (u, u), walkY (ahead (Y v) (v, v)), walkY (behind (Y v) (v, v)), by rw [e1, e2], ?_, rfl, ?_, ?_, wv, ?_, ?_⟩
  · rw [e2]; unfold linkX; simp
  · rw [eAB, setY_in (E.self u hu)]
  · rw [eAB, setY_out hvu, setY_in hT]
    unfold turnX
    rw [walkY_append, walkY_cons_stop]
  · intro h; exact nv (mem_walkY.1 h)
  · rw [e2, wu, wv]
    unfold linkX turnX
    rw [walkY_append, walkY_cons_stop, walkY_cons_step _ _ _ huv, walkY_append, walkY_append, walkY_cons_stop, walkY_cons_step _ _ _ huv.symm]
    simp only [List.length_append, List.length_cons]; omega
theorem walk_ne {n ms u v : Nat} {Y : Nat → List (Nat × Nat)} (E : Eu n ms Y) (hu : u < n) (hv : v < n) : decide (walkY (Y u) = walkY (Y v)) = decide (Y u = Y v) := by
  apply decide_eq_decide.2
  constructor
  · intro e
    have := mem_walkY.2 (E.self u hu)
    rw [e] at this
    exact (E.iff hu hv).1 (mem_walkY.1 this)
  · intro e; rw [e]
theorem walk_le {n ms u : Nat} {Y : Nat → List (Nat × Nat)} (E : Eu n ms Y) (hu : u < n) : (walkY (Y u)).length ≤ n := len_below (nodup_walkY (E.nodup u hu)) (fun r hr => (E.one u hu _ (mem_walkY.1 hr)).1)
theorem walk_first {n ms v : Nat} {Y : Nat → List (Nat × Nat)} (E : Eu n ms Y) (hv : v < n) : ∃ R, walkY (setY Y (turnX (Y v) (v, v)) v) = v :: R := by
  rw [E.turn_at hv, if_pos ⟨hv, rfl⟩]
  unfold turnX
  rw [walkY_append, walkY_cons_stop]
  exact ⟨_, rfl⟩
theorem turnX_twice (X : List (Nat × Nat)) (s : Nat × Nat) : turnX (turnX X s) s = turnX X s := by
  have hb := behind_eq (A := []) (B := behind X s ++ ahead X s) (s := s) (by simp)
  have ha := ahead_eq (A := []) (B := behind X s ++ ahead X s) (s := s) (by simp)
  show s :: behind ([] ++ s :: (behind X s ++ ahead X s)) s ++ ahead ([] ++ s :: (behind X s ++ ahead X s)) s = _
  rw [hb, ha]
  simp [turnX]
theorem turn_twice {n ms v : Nat} {Y : Nat → List (Nat × Nat)} (E : Eu n ms Y) (hv : v < n) : setY (setY Y (turnX (Y v) (v, v))) (turnX (setY Y (turnX (Y v) (v, v)) v) (v, v)) v = setY Y (turnX (Y v) (v, v)) v := by
  have E1 := E.turn hv
  have e1 : setY Y (turnX (Y v) (v, v)) v = turnX (Y v) (v, v) := by rw [E.turn_at hv, if_pos ⟨hv, rfl⟩]
  rw [E1.turn_at hv, if_pos ⟨hv, rfl⟩, e1, turnX_twice]

theorem drop_cells {w : World} {o : Nat → Nat} {i g n cap : Nat} {xs : List Nat} (r : Nat) (h : Row w o i 3 1 (.slice (some ⟨g, 0, none⟩) n cap) n (intsL xs)) (hn : xs.length = n) : ∀ j u, ((intsL xs).drop r)[j]? = some u → w.cell? ((⟨g, r, none⟩ : Addr).add j) = some u := fun j u hj => by
  rw [List.getElem?_drop] at hj
  have hjl := (List.getElem?_eq_some_iff.1 hj).1
  rw [intsL_length] at hjl
  obtain ⟨g', cap', hv', _, _, _, _, hcell', _⟩ := h.pos (by omega)
  simp only [Value.slice.injEq, Option.some.injEq, Addr.mk.injEq, and_true, true_and] at hv'
  obtain ⟨rfl, _⟩ := hv'
  have := hcell' (r + j) (by omega)
  rw [hj] at this
  unfold Addr.add
  by_cases j0 : j = 0
  · subst j0; simpa using this
  · simpa [j0] using this
theorem take_cells {w : World} {o : Nat → Nat} {i g n cap : Nat} {xs : List Nat} (r : Nat) (h : Row w o i 3 1 (.slice (some ⟨g, 0, none⟩) n cap) n (intsL xs)) (hn : xs.length = n) : ∀ j u, ((intsL xs).take r)[j]? = some u → w.cell? ((⟨g, 0, none⟩ : Addr).add j) = some u := fun j u hj => by
  rw [List.getElem?_take] at hj
  split at hj
  · have := drop_cells 0 h hn j u (by simpa using hj)
    exact this
  · simp at hj
theorem one_of_ints (l : List Value) (xs : List Nat) (h : ∀ u ∈ l, u ∈ intsL xs) : ∀ u ∈ l, u.oneCell' = true := fun u hu => by
  obtain ⟨h', _, rfl⟩ := List.mem_map.1 (h u hu)
  rfl

set_option maxRecDepth 100000 in
set_option maxHeartbeats 8000000 in
theorem back_walk (w : World) (cu cv : Int) (a0 : Option Addr) (len0 cap0 : Nat) (z : Nat → Int) (ha0 : Arg w a0 len0 z) (h1 : len0 ≤ 9223372036854775807) (hcu : -9223372036854775808 ≤ cu ∧ cu ≤ 9223372036854775807) (hcv : -9223372036854775808 ≤ cv ∧ cv ≤ 9223372036854775807) :
    Calls Try.prog 7 #[.slice a0 len0 cap0, .int .i64 cu, .int .i64 cv] w fun e w' => e = .returned (.bool true) ∧ Below w.heap.size w w' := by
  have npos : ¬ Pos 0 := by unfold Pos; omega
  obtain ⟨ii, hii, hzi0, hzi1, hzi2⟩ := info_parts infoInt
  obtain ⟨n, hn⟩ : ∃ n, n = 2 + min len0 62 := ⟨_, rfl⟩
  have HN : Hid (n = 2 + min len0 62) := hn
  clear hn
  go_enter Try.func7, Try.ntmps7
  go_wp2_with fail
  refine (awake_any w).mono ?_
  rintro e w1 ⟨rfl, hb1⟩
  have t1 : Step Pos w o0 w1 o0 := Step.ofBelow o0 hb1
  go_wp2_with fail
  all_goals
    first
      | rw [show (64 : Int) = (n : Int) by have := HN.out; omega]
      | rw [show (2 + (len0 : Int)) = (n : Int) by have := HN.out; omega]
    have hn1 : 2 ≤ n := by have := HN.out; omega
    have hn2 : n ≤ 64 := by have := HN.out; omega
    refine (new_t w1 o0 1 n (by omega) hn2).mono ?_
    rintro e w2 ⟨p, rfl, o2, T2, s2⟩
    have START : LoneS w p n 1 w2 := ⟨o2, _, _, T2, fun j _ _ => rfl, t1.trans (s2.posT (by omega))⟩
    clear T2 s2 t1 hb1
    go_wp2
    go_loopg [11] n (fun gh i wr => ∃ m : Nat, i = .int .i64 ((m + 1 : Nat) : Int) ∧ m + 1 ≤ n ∧ gh = n - m ∧ m ≤ len0 ∧ LoneS w p n (m + 1) wr)
    case atStart => exact ⟨0, by go_num, by omega, by omega, by omega, START⟩
    case round =>
      clear START
      obtain ⟨m, rfl, hm, rfl, hm0, o3, Y, D, T3, G3, t3⟩ := hrel
      by_cases hlt : m + 1 < n ∧ m < len0
      · obtain ⟨hlt, hml0⟩ := hlt
        obtain ⟨b, off, rfl, hbl, hob, hcell, hz1, hz2⟩ := ha0.at0.step t3 npos m (by omega)
        have hml : (m : Int) < (len0 : Int) := by omega
        have hpk := pick_any ((z m).tdiv 3) (m + 1) wr (tdiv3_bd hz1 hz2).1 (tdiv3_bd hz1 hz2).2 (by omega) (by omega)
        have hpk2 := pick_any (z m) 3 wr hz1 hz2 (by omega) (by omega)
        have ecast : (((m + 1 : Nat)) : Int) = (m : Int) + 1 := by omega
        rw [ecast] at hpk
        obtain ⟨ms, E3⟩ := T3.eu
        have hlk1 := fun r (hr : r < m + 1) => link_t wr o3 1 p n Y D r (m + 1) T3 (by omega) hlt (G3.ne E3 hlt hr)
        have HG1 : Hid (∀ r, r < m + 1 → Lone n (m + 1 + 1) (setY Y (linkX (Y r) (Y (m + 1)) r (m + 1)))) := fun r hr => G3.link E3 hlt hr
        have HT : Hid (Step Pos w o0 wr o3) := t3
        have HR : LoneS w p n (m + 1 + 1) wr := ⟨o3, Y, D, T3, fun j h1 h2 => G3 j (by omega) h2, t3⟩
        clear T3 G3 E3 t3 ecast
        go_wp2_with fail
        refine hpk.mono ?_
        rintro e w4 ⟨r, hr, rfl, hw4⟩
        obtain rfl : wr = w4 := hw4.symm
        have hlk1 := hlk1 r hr
        clear hpk
        go_wp2_with fail
        refine hpk2.mono ?_
        rintro e w5 ⟨r2, hr2, rfl, hw5⟩
        obtain rfl : wr = w5 := hw5.symm
        clear hpk2
        by_cases h0 : r2 = 0
        · subst h0
          clear hlk1 HG1 HT hcell
          go_wp2
          go_roundg (n - (m + 1))
          case measure => omega
          case rel => exact ⟨m + 1, by go_num, by omega, rfl, by omega, HR⟩
        · have hr0 : ((r2 : Int) == 0) = false := by simp only [beq_eq_false_iff_ne, ne_eq]; omega
          clear HR
          go_wp2_with fail
          refine hlk1.mono ?_
          rintro e w6 ⟨rfl, o6, T6, s6⟩
          have R : LoneS w p n (m + 1 + 1) w6 := ⟨o6, _, _, T6, HG1.out r hr, HT.out.trans (s6.posT (by omega))⟩
          clear T6 s6 hlk1 HG1 HT hcell
          go_wp2
          go_roundg (n - (m + 1))
          case measure => omega
          case rel => exact ⟨m + 1, by go_num, by omega, rfl, by omega, R⟩
      · clear G3
        by_cases hlt1 : m + 1 < n
        all_goals (try (exfalso; have := HN.out; omega))
        all_goals
          have hml : ¬ ((m : Int) < (len0 : Int)) ∨ ¬ ((m : Int) + 1 < n) := by omega
          clear hlt HN
          obtain ⟨ms, E3⟩ := T3.eu
          have hpu := pick_any cu n wr hcu.1 hcu.2 (by omega) (by omega)
          have hpv := pick_any cv n wr hcv.1 hcv.2 (by omega) (by omega)
          go_wp2_with fail
          refine hpu.mono ?_
          rintro e w4 ⟨u, hu, rfl, hw4⟩
          obtain rfl : wr = w4 := hw4.symm
          clear hpu
          go_wp2_with fail
          refine hpv.mono ?_
          rintro e w5 ⟨v, hv, rfl, hw5⟩
          obtain rfl : wr = w5 := hw5.symm
          clear hpv
          have hwk := walk_t wr o3 1 p n 5001 Y D u T3 hu (TL.no (by omega))
          go_wp2_with fail
          refine hwk.mono ?_
          rintro e w6 ⟨va, o6, rfl, r6, T6, s6⟩
          have t6 := t3.trans (s6.posW (by omega) (by omega))
          have hwk := walk_t w6 o6 1 p n 5002 Y D v T6 hv (TL.no (by omega))
          clear s6 t3 T3 T6
          go_wp2_with fail
          refine hwk.mono ?_
          rintro e w7 ⟨vb, o7, rfl, r7, T7, s7⟩
          have t7 := t6.trans (s7.posW (by omega) (by omega))
          have q7 := r6.step s7 (fun h => h.elim (TL.no (by omega)) (by omega))
          clear hwk s7 t6 r6
          have hws := walk_ne E3 hu hv
          by_cases he : Y u = Y v
          · have hlk := link_same_t w7 o7 1 p n Y D u v T7 hu hv he
            rw [decide_eq_true he] at hws
            go_wp2_with fail
            refine hlk.mono ?_
            rintro e w8 ⟨rfl, o8, T8, s8⟩
            have t8 := t7.trans (s8.posT (by omega))
            have q8 := q7.step s8 (TL.no (by omega))
            have r8 := r7.step s8 (TL.no (by omega))
            have hsa := same_t w8 o8 1 p n Y D u v T8 hu hv
            rw [decide_eq_true he] at hsa
            clear hlk s8 t7 T7 q7 r7 T8 he
            go_wp2_with fail
            refine hsa.mono ?_
            rintro e w9 ⟨rfl, o9, T9, s9⟩
            have t9 := t8.trans (s9.posT (by omega))
            have q9 := q8.step s9 (TL.no (by omega))
            have r9 := r8.step s9 (TL.no (by omega))
            have hsm := same_any w9 o9 o9 5001 5002 va vb _ _ q9.vw r9.vw
            rw [hws] at hsm
            clear hsa s9 t8 q8 r8 hws q9 r9
            go_wp2_with fail
            refine hsm.mono ?_
            rintro e w10 ⟨rfl, m10, hw10⟩
            have s10 : Step (fun _ => False) w9 o9 w10 o9 := hw10 ▸ (Step.refl _ _ _).drewN m10
            have T10 := T9.quiet s10
            have t10 := t9.trans s10.pos0
            clear hsm s10 hw10 T9 t9
            have hre := reroot_t w10 o9 1 p n Y D v T10 hv
            obtain ⟨msT, ET⟩ := T10.eu
            obtain ⟨R, hR⟩ := walk_first ET hv
            have hTw := turn_twice ET hv
            clear ET T10
            go_wp2_with fail
            refine hre.mono ?_
            rintro e w20 ⟨rfl, o20, T20, s20⟩
            have t20 := t10.trans (s20.posT (by omega))
            generalize hY20 : setY Y (turnX (Y v) (v, v)) = Y20 at T20 hR hTw
            have hwk := walk_t w20 o20 1 p n 5007 Y20 D v T20 hv (TL.no (by omega))
            rw [hR] at hwk
            clear hre s20 t10 T20 hY20
            go_wp2_with fail
            refine hwk.mono ?_
            rintro e w21 ⟨vx, o21, rfl, r21, T21, s21⟩
            have t21 := t20.trans (s21.posW (by omega) (by omega))
            have hre := reroot_t w21 o21 1 p n Y20 D v T21 hv
            clear hwk s21 t20 T21
            go_wp2_with fail
            refine hre.mono ?_
            rintro e w22 ⟨rfl, o22, T22, s22⟩
            have t22 := t21.trans (s22.posT (by omega))
            have r22 := r21.step s22 (TL.no (by omega))
            have hwk := walk_t w22 o22 1 p n 5008 _ D v T22 hv (TL.no (by omega))
            rw [hTw, hR] at hwk
            clear hre s22 t21 T22 r21
            go_wp2_with fail
            refine hwk.mono ?_
            rintro e w23 ⟨vy, o23, rfl, r23, T23, s23⟩
            have t23 := t22.trans (s23.posW (by omega) (by omega))
            have r24 := r22.step s23 (fun h => h.elim (TL.no (by omega)) (by omega))
            have hsm := same_any w23 o23 o23 5007 5008 vx vy (v :: R) (v :: R) r24.vw r23.vw
            rw [decide_eq_true rfl] at hsm
            obtain ⟨gx, cx, rfl, hx1, hx2, hx3, hx4, hx5, hx6⟩ := r24.pos (by simp)
            have cx0 := (hx5 0 (by simp)).trans (show (intsL (v :: R))[0]? = some (.int .i64 v) by rfl)
            have HB := t23.old
            clear hwk s23 t22 T23 r22 r23 r24 hx5 hx6 t23 hR hTw
            unfold maxLen at hx3
            go_wp2_with fail
            refine hsm.mono ?_
            rintro e w25 ⟨rfl, m25, rfl⟩
            have HB2 := below_drew HB m25
            have hRl : 0 < (v :: R).length := by simp
            clear hsm HB
            generalize (v :: R).length = lx at *
            have hRl2 : (0 : Int) < (lx : Int) := by omega
            go_wp2
            go_ret
            exact ⟨rfl, HB2⟩
          · have huv : u ≠ v := fun e => he (by rw [e])
            have hlk := link_t w7 o7 1 p n Y D u v T7 hu hv he
            rw [decide_eq_false he] at hws
            obtain ⟨Y2, A, M, B, P, Q, hM⟩ := backM E3 hu hv he
            generalize hY1 : setY Y (linkX (Y u) (Y v) u v) = Y1 at hM hlk
            generalize hD1 : (fun s => if s = (u, v) ∨ s = (v, u) then (⟨0, false, 0⟩ : It) else D s) = D1 at hlk
            have HM : Hid (BackM Y Y1 Y2 u v A M B P Q) := hM
            have hone := hM.one
            have hlen := hM.len
            have hwas := hM.was
            rw [hwas] at r7
            have hlvb : (walkY (Y v)).length = (P ++ v :: Q).length := by rw [hwas]
            have hba := walk_le E3 hu
            have hbb := walk_le E3 hv
            rw [hwas] at hbb
            clear hY1 hD1 hM E3
            go_wp2_with fail
            refine hlk.mono ?_
            rintro e w8 ⟨rfl, o8, T8, s8⟩
            have t8 := t7.trans (s8.posT (by omega))
            have q8 := q7.step s8 (TL.no (by omega))
            have r8 := r7.step s8 (TL.no (by omega))
            have hsa := same_t w8 o8 1 p n Y1 D1 u v T8 hu hv
            rw [decide_eq_true hone] at hsa
            clear hlk s8 t7 T7 q7 r7 T8 he hone
            go_wp2_with fail
            refine hsa.mono ?_
            rintro e w9 ⟨rfl, o9, T9, s9⟩
            have t9 := t8.trans (s9.posT (by omega))
            have q9 := q8.step s9 (TL.no (by omega))
            have r9 := r8.step s9 (TL.no (by omega))
            have hsm := same_any w9 o9 o9 5001 5002 va vb _ _ q9.vw r9.vw
            rw [← hwas, hws] at hsm
            clear hsa s9 t8 q8 r8 hws
            go_wp2_with fail
            refine hsm.mono ?_
            rintro e w10 ⟨rfl, m10, hw10⟩
            have s10 : Step (fun _ => False) w9 o9 w10 o9 := hw10 ▸ (Step.refl _ _ _).drewN m10
            have T10 := T9.quiet s10
            have t10 := t9.trans s10.pos0
            have q10 := q9.step s10 id
            have r10 := r9.step s10 id
            have hwk := walk_t w10 o9 1 p n 5003 Y1 D1 v T10 hv (TL.no (by omega))
            clear hsm s10 hw10 T9 t9 q9 r9 T10
            go_wp2_with fail
            refine hwk.mono ?_
            rintro e w11 ⟨vc, o11, rfl, r11, T11, s11⟩
            have t11 := t10.trans (s11.posW (by omega) (by omega))
            have qa := q10.step s11 (fun h => h.elim (TL.no (by omega)) (by omega))
            have qb := r10.step s11 (fun h => h.elim (TL.no (by omega)) (by omega))
            obtain ⟨pa, ka, rfl⟩ := qa.form
            obtain ⟨pb, kb, rfl⟩ := qb.form
            obtain ⟨pc, kc, rfl⟩ := r11.form
            have hl3 : (walkY (Y1 v)).length = (walkY (Y u)).length + (P ++ v :: Q).length := by rw [hlen, hlvb]
            rw [hl3]
            clear hl3
            generalize hla : (walkY (Y u)).length = la at *
            generalize hlb : (P ++ v :: Q).length = lb at *
            have HLA : Hid ((walkY (Y u)).length = la) := hla
            have HLB : Hid ((P ++ v :: Q).length = lb) := hlb
            clear hla hlb
            have hba2 : la ≤ 64 := by omega
            have hbb2 : lb ≤ 64 := by omega
            clear hwk s11 t10 q10 r10 hlen hlvb hwas r11
            have hct := cut_t w11 o11 1 p n Y1 D1 v u u v A M B T11 hv hu huv.symm (.inr ⟨rfl, rfl⟩) HM.out.cut
            rw [← HM.out.two] at hct
            clear T11
            go_wp2_with fail
            refine hct.mono ?_
            rintro e w12 ⟨rfl, o12, T12, s12⟩
            have t12 := t11.trans (s12.posT (by omega))
            have qa2 := qa.step s12 (TL.no (by omega))
            have qb2 := qb.step s12 (TL.no (by omega))
            have hwk := walk_t w12 o12 1 p n 5004 Y2 D1 u T12 hu (TL.no (by omega))
            rw [HM.out.fst, HLA.out] at hwk
            clear hct s12 t11 qa qb T12
            go_wp2_with fail
            refine hwk.mono ?_
            rintro e w13 ⟨vd, o13, rfl, r13, T13, s13⟩
            have t13 := t12.trans (s13.posW (by omega) (by omega))
            have qa3 := qa2.step s13 (fun h => h.elim (TL.no (by omega)) (by omega))
            have qb3 := qb2.step s13 (fun h => h.elim (TL.no (by omega)) (by omega))
            have hwk := walk_t w13 o13 1 p n 5005 Y2 D1 v T13 hv (TL.no (by omega))
            rw [HM.out.snd] at hwk
            clear s13 t12 qa2 qb2 T13
            go_wp2_with fail
            refine hwk.mono ?_
            rintro e w14 ⟨ve, o14, rfl, r14, T14, s14⟩
            have t14 := t13.trans (s14.posW (by omega) (by omega))
            have qa4 := qa3.step s14 (fun h => h.elim (TL.no (by omega)) (by omega))
            have qb4 := qb3.step s14 (fun h => h.elim (TL.no (by omega)) (by omega))
            have qd4 := r13.step s14 (fun h => h.elim (TL.no (by omega)) (by omega))
            have hbpos : 0 < lb := by have := HLB.out; simp at this; omega
            obtain ⟨gb, cb, hvb, hg1, hg2, hg3, hg4, hg5, hg6⟩ := qb4.pos hbpos
            simp only [Value.slice.injEq, true_and] at hvb
            obtain ⟨rfl, rfl⟩ := hvb
            unfold maxLen at hg3
            have HCB : Hid (∀ j (hj : j < (P ++ v :: Q).length), w14.cell? ⟨gb, j, none⟩ = some (.int .i64 ((P ++ v :: Q)[j] : Nat))) := fun j hj => by rw [hg5 j (by have := HLB.out; omega)]; exact intsL_get _ j hj
            have hPl : P.length < lb := by have := HLB.out; simp at this; omega
            clear hwk s14 t13 qa3 qb3 r13 hg5 hg6
            go_wp2
            go_loopg [26] lb (fun gh i wx => ∃ j : Nat, i = .int .i64 (j : Nat) ∧ j ≤ P.length ∧ gh = lb - j ∧ wx = w14)
            case atStart => exact ⟨0, by go_num, by omega, by omega, rfl⟩
            case round =>
              obtain ⟨j, rfl, hj, rfl, rfl⟩ := hrel
              have hjl : j < (P ++ v :: Q).length := by rw [HLB.out]; omega
              have cj := HCB.out j hjl
              have hjlb : (j : Int) < (lb : Int) := by omega
              by_cases hjP : j < P.length
              · have ex : (P ++ v :: Q)[j] = P[j] := List.getElem_append_left hjP
                have hne : P[j] ≠ v := fun e => HM.out.nin (e ▸ List.getElem_mem hjP)
                rw [ex] at cj
                obtain ⟨x, hx⟩ : ∃ x, x = P[j] := ⟨_, rfl⟩
                rw [← hx] at cj hne
                have hxv : ((x : Int) == (v : Int)) = false := by simp only [beq_eq_false_iff_ne, ne_eq]; omega
                clear hx ex hjl hne
                go_wp2
                go_roundg (lb - (j + 1))
                case measure => omega
                case rel => exact ⟨j + 1, by go_num, by omega, rfl, rfl⟩
              · obtain rfl : j = P.length := by omega
                have ex : (P ++ v :: Q)[P.length] = v := by simp
                rw [ex] at cj
                clear ex hjl hjP
                have e1 : ((lb : Int) - (P.length : Int)).toNat = lb - P.length := by omega
                have e2 : ((kb : Int) - (P.length : Int)).toNat = kb - P.length := by omega
                have q1 : (P.length : Int) ≤ (lb : Int) := by omega
                have q2 : (lb : Int) ≤ (kb : Int) := by omega
                have rn : Row wr o14 5006 3 1 (.slice none 0 0) 0 [] := Row.nil _ _ _ _ _
                have HD : Hid (((intsL (P ++ v :: Q)).drop P.length).length = (lb - P.length) * 1) := by
                  show _ = _
                  rw [List.length_drop, intsL_length, HLB.out]; omega
                have HDC : Hid (∀ j u, ((intsL (P ++ v :: Q)).drop P.length)[j]? = some u → wr.cell? ((⟨gb, P.length, none⟩ : Addr).add j) = some u) := drop_cells P.length qb4 HLB.out
                have HDO : Hid (∀ u ∈ (intsL (P ++ v :: Q)).drop P.length, u.oneCell' = true) := one_of_ints _ (P ++ v :: Q) (fun u hu => List.mem_of_mem_drop hu)
                have b1 : 0 + (lb - P.length) ≤ maxLen := by unfold maxLen; omega
                have b2 : 0 < lb - P.length := by omega
                have b3 : (0 + (lb - P.length)) * 8 ≤ 140737488355328 := by omega
                go_wp2_with (first | (at_builtin; refine wpList_append_lab rfl (.tmp 194) (.tmp 197) 41 rfl 3 ii (.int .i64 0) 1 8 Try.underlying41 hii hzi0 hzi1 hzi2 rfl (by decide) o14 5006 _ 0 [] rfl rn ⟨gb, P.length, none⟩ (lb - P.length) (kb - P.length) ((intsL (P ++ v :: Q)).drop P.length) rfl HD.out HDC.out HDO.out b2 b1 b3 ?_) | go_in)
                intro g15 c15 w15 o15 r15 s15
                have n6 : ∀ k, k = 5006 → ¬ TL 1 k := fun k h => TL.no (by omega)
                have T15 := T14.step s15 (fun k hk e => n6 k e hk)
                have t15 := t14.trans (s15.mono (J := Pos) fun k hk => by unfold Pos; omega)
                have qa5 := qa4.step s15 (by omega)
                have qb5 := qb4.step s15 (by omega)
                have qd5 := qd4.step s15 (by omega)
                have qe5 := r14.step s15 (by omega)
                have HTC : Hid (∀ j u, ((intsL (P ++ v :: Q)).take P.length)[j]? = some u → w15.cell? ((⟨gb, 0, none⟩ : Addr).add j) = some u) := take_cells P.length qb5 HLB.out
                have HTO : Hid (∀ u ∈ (intsL (P ++ v :: Q)).take P.length, u.oneCell' = true) := one_of_ints _ (P ++ v :: Q) (fun u hu => List.mem_of_mem_take hu)
                have HTL : Hid (((intsL (P ++ v :: Q)).take P.length).length = P.length * 1) := by
                  show _ = _
                  rw [List.length_take, intsL_length, HLB.out]; omega
                have b4 : lb - P.length + P.length ≤ maxLen := by unfold maxLen; omega
                have b5 : (lb - P.length + P.length) * 8 ≤ 140737488355328 := by omega
                clear s15 T14 t14 qa4 qb4 qd4 r14 rn HD HDC HDO b1 b3 HCB cj e1 e2
                go_wp2_with (first | (at_builtin; refine wpList_append_lab2 rfl (.tmp 199) (.tmp 202) 41 rfl 3 ii (.int .i64 0) 1 8 Try.underlying41 hii hzi0 hzi1 hzi2 rfl (by decide) o15 5006 _ (lb - P.length) ((intsL (P ++ v :: Q)).drop P.length) rfl r15 ⟨gb, 0, none⟩ P.length kb ((intsL (P ++ v :: Q)).take P.length) rfl HTL.out HTC.out HTO.out b2 b4 b5 ?_) | go_in)
                intro g16 c16 w16 o16 r16 s16
                have T16 := T15.step s16 (fun k hk e => n6 k e hk)
                have t16 := t15.trans (s16.mono (J := Pos) fun k hk => by unfold Pos; omega)
                have qa6 := qa5.step s16 (by omega)
                have qd6 := qd5.step s16 (by omega)
                have qe6 := qe5.step s16 (by omega)
                have eN : lb - P.length + P.length = (v :: Q ++ P).length := by have := HLB.out; simp at this ⊢; omega
                have eL : (intsL (P ++ v :: Q)).drop P.length ++ (intsL (P ++ v :: Q)).take P.length = intsL (v :: Q ++ P) := by
                  rw [show intsL (P ++ v :: Q) = intsL P ++ intsL (v :: Q) by simp [intsL], List.drop_append_of_le_length (by rw [intsL_length]; omega), List.take_append_of_le_length (by rw [intsL_length]; omega), List.drop_of_length_le (by rw [intsL_length]; omega), List.take_of_length_le (by rw [intsL_length]; omega)]
                  simp [intsL]
                obtain ⟨lt, hlt⟩ : ∃ lt, lt = lb - P.length + P.length := ⟨_, rfl⟩
                have HLT : Hid (lt = (v :: Q ++ P).length) := hlt.trans eN
                rw [eL, ← hlt, HLT.out] at r16
                rw [← hlt]
                have vw6 := r16.vw
                clear hlt
                rw [← HLA.out] at qa6 qd6
                have hs1 := same_any w16 o16 o16 5001 5004 _ vd _ _ qa6.vw qd6.vw
                rw [decide_eq_true rfl, HLA.out] at hs1
                clear s16 T15 t15 qa5 qb5 qd5 qe5 r15 HTC HTO HTL b2 b4 b5 eL eN r16 qa6 qd6 q1 q2
                go_wp2_with fail
                refine hs1.mono ?_
                rintro e w17 ⟨rfl, m17, hw17⟩
                have s17 : Step (fun _ => False) w16 o16 w17 o16 := hw17 ▸ (Step.refl _ _ _).drewN m17
                have T17 := T16.quiet s17
                have t17 := t16.trans s17.pos0
                have hs2 := same_any w17 o16 o16 5006 5005 _ ve _ _ (vw6.step s17 id) (qe6.vw.step s17 id)
                rw [decide_eq_true rfl, ← HLT.out] at hs2
                clear hs1 s17 hw17 T16 t16 vw6 qe6
                go_wp2_with fail
                refine hs2.mono ?_
                rintro e w18 ⟨rfl, m18, hw18⟩
                have s18 : Step (fun _ => False) w17 o16 w18 o16 := hw18 ▸ (Step.refl _ _ _).drewN m18
                have T18 := T17.quiet s18
                have t18 := t17.trans s18.pos0
                clear hs2 s18 hw18 T17 t17
                have hre := reroot_t w18 o16 1 p n Y2 D1 v T18 hv
                obtain ⟨msT, ET⟩ := T18.eu
                obtain ⟨R, hR⟩ := walk_first ET hv
                have hTw := turn_twice ET hv
                clear ET T18
                go_wp2_with fail
                refine hre.mono ?_
                rintro e w20 ⟨rfl, o20, T20, s20⟩
                have t20 := t18.trans (s20.posT (by omega))
                generalize hY20 : setY Y2 (turnX (Y2 v) (v, v)) = Y20 at T20 hR hTw
                have hwk := walk_t w20 o20 1 p n 5007 Y20 D1 v T20 hv (TL.no (by omega))
                rw [hR] at hwk
                clear hre s20 t18 T20 hY20
                go_wp2_with fail
                refine hwk.mono ?_
                rintro e w21 ⟨vx, o21, rfl, r21, T21, s21⟩
                have t21 := t20.trans (s21.posW (by omega) (by omega))
                have hre := reroot_t w21 o21 1 p n Y20 D1 v T21 hv
                clear hwk s21 t20 T21
                go_wp2_with fail
                refine hre.mono ?_
                rintro e w22 ⟨rfl, o22, T22, s22⟩
                have t22 := t21.trans (s22.posT (by omega))
                have r22 := r21.step s22 (TL.no (by omega))
                have hwk := walk_t w22 o22 1 p n 5008 _ D1 v T22 hv (TL.no (by omega))
                rw [hTw, hR] at hwk
                clear hre s22 t21 T22 r21
                go_wp2_with fail
                refine hwk.mono ?_
                rintro e w23 ⟨vy, o23, rfl, r23, T23, s23⟩
                have t23 := t22.trans (s23.posW (by omega) (by omega))
                have r24 := r22.step s23 (fun h => h.elim (TL.no (by omega)) (by omega))
                have hsm := same_any w23 o23 o23 5007 5008 vx vy (v :: R) (v :: R) r24.vw r23.vw
                rw [decide_eq_true rfl] at hsm
                obtain ⟨gx, cx, rfl, hx1, hx2, hx3, hx4, hx5, hx6⟩ := r24.pos (by simp)
                have cx0 := (hx5 0 (by simp)).trans (show (intsL (v :: R))[0]? = some (.int .i64 v) by rfl)
                have HB := t23.old
                clear hwk s23 t22 T23 r22 r23 r24 hx5 hx6 t23 hR hTw
                unfold maxLen at hx3
                go_wp2_with fail
                refine hsm.mono ?_
                rintro e w25 ⟨rfl, m25, rfl⟩
                have HB2 := below_drew HB m25
                have hRl : 0 < (v :: R).length := by simp
                clear hsm HB
                generalize (v :: R).length = lx at *
                have hRl2 : (0 : Int) < (lx : Int) := by omega
                go_wp2
                go_ret
                exact ⟨rfl, HB2⟩

end Go.Proofs.Ytepjcjkfhadcgaa
