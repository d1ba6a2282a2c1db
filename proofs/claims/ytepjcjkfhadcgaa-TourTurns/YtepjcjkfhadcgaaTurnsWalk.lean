/- The walk of the law TourTurns. -/
import Derived.Test.YtepjcjkfhadcgaaAwake4
import Derived.Deep.LoopGhost
namespace Go.Proofs.Ytepjcjkfhadcgaa
open Go.ChangeShapes Go.WideShapes Go.ChangeAt Go.RowKit Go.Maps
set_option linter.unusedVariables false

/-- An argument that is a slice of numbers, under the label nought. -/
def Arg0 (w : World) (o : Nat → Nat) (ao : Option Addr) (len : Nat) (z : Nat → Int) : Prop :=
  ∀ j, j < len → ∃ b off, ao = some ⟨b, off, none⟩ ∧ b < w.heap.size ∧ o b = 0 ∧ w.cell? ⟨b, off + j, none⟩ = some (.int .i64 (z j)) ∧ -9223372036854775808 ≤ z j ∧ z j ≤ 9223372036854775807
theorem Arg0.step {I : Nat → Prop} {w w' : World} {o o' : Nat → Nat} {ao : Option Addr} {len : Nat} {z : Nat → Int} (h : Arg0 w o ao len z) (s : Step I w o w' o') (hi : ¬ I 0) : Arg0 w' o' ao len z := by
  intro j hj
  obtain ⟨b, off, h1, h2, h3, h4, h5⟩ := h j hj
  exact ⟨b, off, h1, Nat.lt_of_lt_of_le h2 s.size, (s.lab b h2).trans h3, (s.cell h2 (by rw [h3]; exact hi) _).trans h4, h5⟩
theorem Arg.at0 {w : World} {ao : Option Addr} {len : Nat} {z : Nat → Int} (h : Arg w ao len z) : Arg0 w o0 ao len z := by
  intro j hj
  obtain ⟨b, off, h1, h2, h4, h5⟩ := h j hj
  exact ⟨b, off, h1, h2, rfl, h4, h5⟩

/-- One tree of the first i vertices, the others alone. -/
def Grows (n i : Nat) (Y : Nat → List (Nat × Nat)) : Prop := (∀ j, j < i → Y j = Y 0) ∧ (∀ j, i ≤ j → j < n → Y j = [(j, j)])
theorem Grows.new (n : Nat) : Grows n 1 (fun v => [(v, v)]) := by
  refine ⟨fun j hj => ?_, fun j _ _ => rfl⟩
  obtain rfl : j = 0 := by omega
  rfl
theorem Grows.ne {n ms i k : Nat} {Y : Nat → List (Nat × Nat)} (E : Eu n ms Y) (h : Grows n i Y) (hi : i < n) (hk : k < i) : Y k ≠ Y i := fun e => by
  have := E.self k (by omega)
  rw [e, h.2 i (Nat.le_refl _) hi] at this
  simp at this; omega
theorem Grows.link {n ms i u v : Nat} {Y : Nat → List (Nat × Nat)} (E : Eu n ms Y) (h : Grows n i Y) (hi : i < n) (h1 : 1 ≤ i) (huv : (u < i ∧ v = i) ∨ (u = i ∧ v < i)) : Grows n (i + 1) (setY Y (linkX (Y u) (Y v) u v)) := by
  have hu : u < n := by omega
  have hv : v < n := by omega
  have hne : u ≠ v := by omega
  have one : ∀ j, j < i + 1 → Y j = Y u ∨ Y j = Y v := fun j hj => by
    by_cases e : j = i
    · subst e
      rcases huv with ⟨_, rfl⟩ | ⟨rfl, _⟩
      · exact .inr rfl
      · exact .inl rfl
    · have := h.1 j (by omega)
      rcases huv with ⟨x, rfl⟩ | ⟨rfl, x⟩
      · exact .inl (by rw [this, h.1 u x])
      · exact .inr (by rw [this, h.1 v x])
  constructor
  · intro j hj
    rw [E.link_at hu hv hne, E.link_at hu hv hne, if_pos ⟨by omega, one j hj⟩, if_pos ⟨by omega, one 0 (by omega)⟩]
  · intro j hj hjn
    rw [E.link_at hu hv hne, if_neg, h.2 j (by omega) hjn]
    rintro ⟨_, e | e⟩
    · have := E.self u hu
      rw [← e, h.2 j (by omega) hjn] at this
      simp at this; omega
    · have := E.self v hv
      rw [← e, h.2 j (by omega) hjn] at this
      simp at this; omega
theorem tdiv_bd {x : Int} (h1 : -9223372036854775808 ≤ x) (h2 : x ≤ 9223372036854775807) : -9223372036854775808 ≤ x.tdiv 2 ∧ x.tdiv 2 ≤ 9223372036854775807 := by
  rcases Int.le_total 0 x with h | h
  · rw [Int.tdiv_eq_ediv_of_nonneg h]; omega
  · have : x.tdiv 2 = -((-x) / 2) := by rw [← Int.tdiv_eq_ediv_of_nonneg (show (0 : Int) ≤ -x by omega), Int.neg_tdiv, Int.neg_neg]
    rw [this]; omega
/-- The state of the loop. -/
def TreeS (w : World) (p n i : Nat) (wr : World) : Prop := ∃ o' Y D, Tt wr o' 1 p n Y D ∧ Grows n i Y ∧ Step Pos w o0 wr o'

/-- Walks of one tree. -/
theorem mem_walkY {X : List (Nat × Nat)} {v : Nat} : v ∈ walkY X ↔ (v, v) ∈ X := by
  unfold walkY
  rw [List.mem_map]
  constructor
  · rintro ⟨s, hs, rfl⟩
    obtain ⟨h1, h2⟩ := List.mem_filter.1 hs
    simp at h2
    obtain ⟨a, b⟩ := s
    simp at h2; subst h2; exact h1
  · intro h; exact ⟨(v, v), List.mem_filter.2 ⟨h, by simp⟩, rfl⟩
theorem nodup_walkY {X : List (Nat × Nat)} (h : X.Nodup) : (walkY X).Nodup := by
  unfold walkY List.Nodup
  rw [List.pairwise_map]
  refine List.Pairwise.imp_of_mem (R := fun a b => a ≠ b) (fun ha hb hne e => ?_) (h.filter _)
  obtain ⟨_, h1⟩ := List.mem_filter.1 ha
  obtain ⟨_, h2⟩ := List.mem_filter.1 hb
  simp at h1 h2
  exact hne (Prod.ext (by rw [h1, h2]; exact e) e)
theorem walkY_append (X Z : List (Nat × Nat)) : walkY (X ++ Z) = walkY X ++ walkY Z := by unfold walkY; rw [List.filter_append, List.map_append]
theorem walkY_cons_stop (v : Nat) (X : List (Nat × Nat)) : walkY ((v, v) :: X) = v :: walkY X := by simp [walkY]
theorem walkY_cons_step (u v : Nat) (X : List (Nat × Nat)) (h : u ≠ v) : walkY ((u, v) :: X) = walkY X := by simp [walkY, h]

theorem len_sub : ∀ {l1 l2 : List Nat}, l1.Nodup → (∀ x ∈ l1, x ∈ l2) → l1.length ≤ l2.length
  | [], _, _, _ => by simp
  | a :: l1, l2, h, hs => by
    rw [List.nodup_cons] at h
    have ha := hs a (by simp)
    have := len_sub (l1 := l1) (l2 := l2.erase a) h.2 (fun x hx => (List.mem_erase_of_ne (fun e : x = a => h.1 (e ▸ hx))).2 (hs x (by simp [hx])))
    rw [List.length_erase_of_mem ha] at this
    have := List.length_pos_of_mem ha
    simp only [List.length_cons]; omega
/-- A tour of all vertices, turned to begin at one, and then at another one: the walks. -/
structure Turned (n u v k : Nat) (xa xb : List Nat) : Prop where
  la : xa.length = n
  lb : xb.length = n
  first : xa[0]? = some u
  lt : k < n
  at_ : xa[k]? = some v
  only : ∀ j, xa[j]? = some v → j = k
  all : ∀ i, i < n → xb[i]? = xa[(k + i) % n]?
theorem turned_of {n ms u v : Nat} {Y : Nat → List (Nat × Nat)} (E : Eu n ms Y) (G : Grows n n Y) (hu : u < n) (hv : v < n) :
    ∃ k, Turned n u v k (walkY (setY Y (turnX (Y u) (u, u)) 0)) (walkY (setY (setY Y (turnX (Y u) (u, u))) (turnX (setY Y (turnX (Y u) (u, u)) v) (v, v)) (n - 1))) := by
  have h0 : 0 < n := by omega
  have E1 := E.turn hu
  have e1 : ∀ j, j < n → setY Y (turnX (Y u) (u, u)) j = turnX (Y u) (u, u) := fun j hj => by
    rw [E.turn_at hu, if_pos ⟨hj, by rw [G.1 j hj, G.1 u hu]⟩]
  have e2 : ∀ j, j < n → setY (setY Y (turnX (Y u) (u, u))) (turnX (setY Y (turnX (Y u) (u, u)) v) (v, v)) j = turnX (turnX (Y u) (u, u)) (v, v) := fun j hj => by
    rw [E1.turn_at hv, if_pos ⟨hj, by rw [e1 j hj, e1 v hv]⟩, e1 v hv]
  rw [e1 0 h0, e2 (n - 1) (by omega)]
  have s1 := E1.self v hv
  have n1 := E1.nodup v hv
  have all := fun j hj => E1.self j hj
  have rng := fun s hs => E1.one v hv s hs
  rw [e1 v hv] at s1 n1 rng
  have hin : ∀ j, j < n → (j, j) ∈ turnX (Y u) (u, u) := fun j hj => by rw [← e1 j hj]; exact all j hj
  have hfirst : ∃ R, turnX (Y u) (u, u) = (u, u) :: R := ⟨_, rfl⟩
  generalize turnX (Y u) (u, u) = X at *
  obtain ⟨eX, hni⟩ := split_at s1
  have hnd := nodup_walkY n1
  have hlen : (walkY X).length = n := by
    apply Nat.le_antisymm
    · exact len_below hnd (fun r hr => (rng _ (mem_walkY.1 hr)).1)
    · have := len_sub (l1 := List.range n) (l2 := walkY X) List.nodup_range (fun x hx => mem_walkY.2 (hin x (by simpa using hx)))
      simpa using this
  have ea : walkY X = walkY (ahead X (v, v)) ++ v :: walkY (behind X (v, v)) := by
    conv => lhs; rw [eX]
    rw [walkY_append, walkY_cons_stop]
  have eb : walkY (turnX X (v, v)) = v :: walkY (behind X (v, v)) ++ walkY (ahead X (v, v)) := by
    unfold turnX; rw [walkY_append, walkY_cons_stop]
  generalize hP : walkY (ahead X (v, v)) = P at *
  generalize hQ : walkY (behind X (v, v)) = Q at *
  have hl2 := hlen
  rw [ea] at hl2
  simp only [List.length_append, List.length_cons] at hl2
  refine ⟨P.length, hlen, ?_, ?_, by omega, ?_, fun j hj => ?_, fun i hi => ?_⟩
  · rw [eb]; simp; omega
  · obtain ⟨R, rfl⟩ := hfirst
    rw [walkY_cons_stop]; rfl
  · rw [ea]; simp
  · have hj1 := (List.getElem?_eq_some_iff.1 hj)
    obtain ⟨hjl, hje⟩ := hj1
    have hk : (walkY X)[P.length]? = some v := by rw [ea]; simp
    obtain ⟨hkl, hke⟩ := List.getElem?_eq_some_iff.1 hk
    exact (List.getElem_inj hnd).1 (hje.trans hke.symm)
  · rw [ea, eb]
    by_cases h : P.length + i < n
    · rw [Nat.mod_eq_of_lt h, List.getElem?_append_left (by simp; omega), List.getElem?_append_right (by omega), Nat.add_sub_cancel_left]
    · have : (P.length + i) % n = P.length + i - n := by
        rw [Nat.mod_eq_sub_mod (by omega), Nat.mod_eq_of_lt (by omega)]
      rw [this, List.getElem?_append_right (by simp; omega), List.getElem?_append_left (by omega)]
      congr 1
      simp; omega

/-- What 'at' is behind so many. -/
def atK (q k : Nat) : Int := if q < k then (q : Int) else -1
theorem atK_zero (q : Nat) : atK q 0 = -1 := by simp [atK]
theorem atK_hit (q : Nat) : atK q (q + 1) = q := by simp [atK]
theorem atK_miss {q k : Nat} (h : k ≠ q) : atK q k = atK q (k + 1) := by
  unfold atK
  by_cases h2 : q < k
  · rw [if_pos h2, if_pos (by omega)]
  · rw [if_neg h2, if_neg (by omega)]
theorem atK_all {q n : Nat} (h : q < n) : atK q n = q := by simp [atK, h]

set_option maxRecDepth 100000 in
set_option maxHeartbeats 8000000 in
theorem turns_walk (w : World) (cu cv : Int) (a0 : Option Addr) (len0 cap0 : Nat) (z : Nat → Int) (ha0 : Arg w a0 len0 z) (h1 : len0 ≤ 9223372036854775807) (hcu : -9223372036854775808 ≤ cu ∧ cu ≤ 9223372036854775807) (hcv : -9223372036854775808 ≤ cv ∧ cv ≤ 9223372036854775807) :
    Calls Try.prog 5 #[.slice a0 len0 cap0, .int .i64 cu, .int .i64 cv] w fun e w' => e = .returned (.bool true) ∧ Below w.heap.size w w' := by
  have npos : ¬ Pos 0 := by unfold Pos; omega
  obtain ⟨n, hn⟩ : ∃ n, n = 1 + min len0 63 := ⟨_, rfl⟩
  have HN : Hid (n = 1 + min len0 63) := hn
  clear hn
  go_enter Try.func5, Try.ntmps5
  go_wp2_with fail
  refine (awake_any w).mono ?_
  rintro e w1 ⟨rfl, hb1⟩
  have t1 : Step Pos w o0 w1 o0 := Step.ofBelow o0 hb1
  go_wp2_with fail
  all_goals
    first
      | rw [show (64 : Int) = (n : Int) by have := HN.out; omega]
      | rw [show (1 + (len0 : Int)) = (n : Int) by have := HN.out; omega]
    have hn1 : 1 ≤ n := by have := HN.out; omega
    have hn2 : n ≤ 64 := by have := HN.out; omega
    have hn3 : n ≤ len0 + 1 := by have := HN.out; omega
    clear HN
    refine (new_t w1 o0 1 n hn1 hn2).mono ?_
    rintro e w2 ⟨p, rfl, o2, T2, s2⟩
    have START : TreeS w p n 1 w2 := ⟨o2, _, _, T2, Grows.new n, t1.trans (s2.posT (by omega))⟩
    clear T2 s2 t1 hb1
    go_wp2
    go_loopg [11] n (fun gh i wr => ∃ m : Nat, i = .int .i64 ((m + 1 : Nat) : Int) ∧ m + 1 ≤ n ∧ gh = n - m ∧ TreeS w p n (m + 1) wr)
    case atStart => exact ⟨0, by go_num, by omega, by omega, START⟩
    case round =>
      clear START
      obtain ⟨m, rfl, hm, rfl, o3, Y, D, T3, G3, t3⟩ := hrel
      by_cases hlt : m + 1 < n
      · obtain ⟨b, off, rfl, hbl, hob, hcell, hz1, hz2⟩ := ha0.at0.step t3 npos m (by omega)
        have hml : (m : Int) < (len0 : Int) := by omega
        have hpk := pick_any ((z m).tdiv 2) (m + 1) wr (tdiv_bd hz1 hz2).1 (tdiv_bd hz1 hz2).2 (by omega) (by omega)
        have hpk2 := pick_any (z m) 2 wr hz1 hz2 (by omega) (by omega)
        have ecast : (((m + 1 : Nat)) : Int) = (m : Int) + 1 := by omega
        rw [ecast] at hpk
        obtain ⟨ms, E3⟩ := T3.eu
        have hlk1 := fun r (hr : r < m + 1) => link_t wr o3 1 p n Y D r (m + 1) T3 (by omega) hlt (G3.ne E3 hlt hr)
        have hlk2 := fun r (hr : r < m + 1) => link_t wr o3 1 p n Y D (m + 1) r T3 hlt (by omega) (G3.ne E3 hlt hr).symm
        have HG1 : Hid (∀ r, r < m + 1 → Grows n (m + 1 + 1) (setY Y (linkX (Y r) (Y (m + 1)) r (m + 1)))) := fun r hr => G3.link E3 hlt (by omega) (.inl ⟨hr, rfl⟩)
        have HG2 : Hid (∀ r, r < m + 1 → Grows n (m + 1 + 1) (setY Y (linkX (Y (m + 1)) (Y r) (m + 1) r))) := fun r hr => G3.link E3 hlt (by omega) (.inr ⟨rfl, hr⟩)
        have HT : Hid (Step Pos w o0 wr o3) := t3
        clear T3 G3 E3 t3 ecast
        go_wp2_with fail
        refine hpk.mono ?_
        rintro e w4 ⟨r, hr, rfl, hw4⟩
        obtain rfl : wr = w4 := hw4.symm
        have hlk1 := hlk1 r hr
        have hlk2 := hlk2 r hr
        clear hpk
        go_wp2_with fail
        refine hpk2.mono ?_
        rintro e w5 ⟨r2, hr2, rfl, hw5⟩
        obtain rfl : wr = w5 := hw5.symm
        clear hpk2
        by_cases h0 : r2 = 0
        · subst h0
          go_wp2_with fail
          refine hlk1.mono ?_
          rintro e w6 ⟨rfl, o6, T6, s6⟩
          have R : TreeS w p n (m + 1 + 1) w6 := ⟨o6, _, _, T6, HG1.out r hr, HT.out.trans (s6.posT (by omega))⟩
          clear T6 s6 hlk1 hlk2 HG1 HG2 HT hcell
          go_wp2
          go_roundg (n - (m + 1))
          case measure => omega
          case rel => exact ⟨m + 1, by go_num, by omega, rfl, R⟩
        · obtain rfl : r2 = 1 := by omega
          go_wp2_with fail
          refine hlk2.mono ?_
          rintro e w6 ⟨rfl, o6, T6, s6⟩
          have R : TreeS w p n (m + 1 + 1) w6 := ⟨o6, _, _, T6, HG2.out r hr, HT.out.trans (s6.posT (by omega))⟩
          clear T6 s6 hlk1 hlk2 HG1 HG2 HT hcell
          go_wp2
          go_roundg (n - (m + 1))
          case measure => omega
          case rel => exact ⟨m + 1, by go_num, by omega, rfl, R⟩
      · have hmn : m + 1 = n := by omega
        rw [hmn] at G3 ⊢
        obtain ⟨ms, E3⟩ := T3.eu
        have hpu := pick_any cu n wr hcu.1 hcu.2 (by omega) (by omega)
        have hpv := pick_any cv n wr hcv.1 hcv.2 (by omega) (by omega)
        clear hlt hm hmn
        go_wp2_with fail
        refine hpu.mono ?_
        rintro e w4 ⟨u, hu, rfl, hw4⟩
        obtain rfl : wr = w4 := hw4.symm
        clear hpu
        go_wp2_with fail
        refine hpv.mono ?_
        rintro e w5 ⟨v, hv, rfl, hw5⟩
        obtain rfl : wr = w5 := hw5.symm
        clear hpv
        obtain ⟨q, hQ⟩ := turned_of E3 G3 hu hv
        have hre := reroot_t wr o3 1 p n Y D u T3 hu
        generalize hY1 : setY Y (turnX (Y u) (u, u)) = Y1 at hQ hre
        clear E3 G3 T3 hY1
        go_wp2_with fail
        refine hre.mono ?_
        rintro e w6 ⟨rfl, o6, T6, s6⟩
        have t6 := t3.trans (s6.posT (by omega))
        have hwk := walk_t w6 o6 1 p n 5001 Y1 D 0 T6 (by omega) (TL.no (by omega))
        generalize hAS : walkY (Y1 0) = xa at hQ hwk
        clear hre s6 t3 T6 hAS
        go_wp2_with fail
        refine hwk.mono ?_
        rintro e w7 ⟨va, o7, rfl, r7, T7, s7⟩
        have t7 := t6.trans (s7.posW (by omega) (by omega))
        have hre := reroot_t w7 o7 1 p n Y1 D v T7 hv
        generalize hY2 : setY Y1 (turnX (Y1 v) (v, v)) = Y2 at hQ hre
        rw [hQ.la] at r7
        obtain ⟨ga, ca, rfl, hg1, hg2, hg3, hg4, hg5, _⟩ := r7.pos (by omega)
        unfold maxLen at hg3
        clear hwk s7 t6 T7 hY2
        go_wp2_with fail
        refine hre.mono ?_
        rintro e w8 ⟨rfl, o8, T8, s8⟩
        have t8 := t7.trans (s8.posT (by omega))
        have r8 := r7.step s8 (TL.no (by omega))
        have hwk := walk_t w8 o8 1 p n 5002 Y2 D (n - 1) T8 (by omega) (TL.no (by omega))
        have ecast : (((n - 1 : Nat)) : Int) = (n : Int) - 1 := by omega
        rw [ecast] at hwk
        generalize hBS : walkY (Y2 (n - 1)) = xb at hQ hwk
        clear hre s8 t7 T8 hBS r7 ecast hg5
        go_wp2_with fail
        refine hwk.mono ?_
        rintro e w9 ⟨vb, o9, rfl, r9, T9, s9⟩
        have t9 := (t8.trans (s9.posW (by omega) (by omega))).old
        have r10 := r8.step s9 (fun h => h.elim (TL.no (by omega)) (by omega))
        rw [hQ.lb] at r9
        obtain ⟨gb, cb, rfl, hh1, hh2, hh3, hh4, hh5, hh6⟩ := r9.pos (by omega)
        unfold maxLen at hh3
        obtain ⟨g', cap', hv', _, _, _, _, hcell', hfr'⟩ := r10.pos (by omega)
        simp only [Value.slice.injEq, Option.some.injEq, Addr.mk.injEq, and_true, true_and] at hv'
        obtain ⟨rfl, rfl⟩ := hv'
        have HA : Hid (∀ j (hj : j < xa.length), w9.cell? ⟨ga, j, none⟩ = some (.int .i64 (xa[j] : Nat))) := fun j hj => by rw [hcell' j (by have := hQ.la; omega)]; exact intsL_get xa j hj
        have HB : Hid (∀ j (hj : j < xb.length), w9.cell? ⟨gb, j, none⟩ = some (.int .i64 (xb[j] : Nat))) := fun j hj => by rw [hh5 j (by have := hQ.lb; omega)]; exact intsL_get xb j hj
        have HQ : Hid (Turned n u v q xa xb) := hQ
        have HT : Hid (Below w.heap.size w w9) := t9
        clear hwk s9 t8 T9 r8 r9 r10 hh5 hh6 hcell' hfr' hQ t9
        go_wp2_with fail
        go_loopg [19, 20] n (fun gh at_ i wr => ∃ k : Nat, i = .int .i64 (k : Nat) ∧ k ≤ n ∧ gh = n - k ∧ at_ = .int .i64 (atK q k) ∧ wr = w9)
        case atStart => exact ⟨0, by go_num, by omega, by omega, by rw [atK_zero], rfl⟩
        case round =>
          obtain ⟨k, rfl, hk, rfl, rfl, rfl⟩ := hrel
          by_cases hlt : k < n
          · have hkl : k < xa.length := by rw [HQ.out.la]; exact hlt
            have ck := HA.out k hkl
            have hka : xa[k]? = some xa[k] := List.getElem?_eq_getElem hkl
            obtain ⟨x, hx⟩ : ∃ x, x = xa[k] := ⟨_, rfl⟩
            rw [← hx] at ck hka
            by_cases hq : k = q
            · subst hq
              have hxv : x = v := by have := HQ.out.at_; rw [hka] at this; simpa using this
              rw [hxv] at ck
              clear hx hka hxv hkl
              go_wp2
              go_roundg (n - (k + 1))
              case measure => omega
              case rel => exact ⟨k + 1, by go_num, by omega, rfl, by rw [atK_hit], rfl⟩
            · have hxv : ((x : Int) == (v : Int)) = false := by
                simp only [beq_eq_false_iff_ne, ne_eq]
                intro e
                have e' : x = v := by omega
                rw [e'] at hka
                exact hq (HQ.out.only k hka)
              rw [atK_miss hq]
              clear hx hka hkl
              go_wp2
              go_roundg (n - (k + 1))
              case measure => omega
              case rel => exact ⟨k + 1, by go_num, by omega, rfl, rfl, rfl⟩
          · obtain rfl : k = n := by omega
            rw [atK_all HQ.out.lt]
            have hql := HQ.out.lt
            go_wp2
            go_loopg [21] k (fun gh i wx => ∃ j : Nat, i = .int .i64 (j : Nat) ∧ j ≤ k ∧ gh = k - j ∧ ∃ m, wx = wr.drewN m)
            case atStart => exact ⟨0, by go_num, by omega, by omega, 0, rfl⟩
            case round =>
              obtain ⟨j, rfl, hj, rfl, m2, rfl⟩ := hrel
              by_cases hlt2 : j < k
              · have hml : (q + j) % k < k := Nat.mod_lt _ (by omega)
                have c1 := HB.out j (by rw [HQ.out.lb]; exact hlt2)
                have c2 := HA.out ((q + j) % k) (by rw [HQ.out.la]; exact hml)
                have hall := HQ.out.all j hlt2
                rw [List.getElem?_eq_getElem (by rw [HQ.out.lb]; exact hlt2), List.getElem?_eq_getElem (by rw [HQ.out.la]; exact hml), Option.some.injEq] at hall
                rw [← hall] at c2
                have erem : Int.tmod ((q : Int) + (j : Int)) (k : Int) = (((q + j) % k : Nat) : Int) := by
                  rw [Int.tmod_eq_emod_of_nonneg (by omega)]; simp
                have ew : IntKind.i64.wrap ((q : Int) + (j : Int)) = (q : Int) + (j : Int) := by rw [IntKind.wrap_i64]; omega
                have hz : ((k : Int) == 0) = false := by simp only [beq_eq_false_iff_ne, ne_eq]; omega
                have hm1 : ((k : Int) == -1) = false := by simp only [beq_eq_false_iff_ne, ne_eq]; omega
                obtain ⟨x, hx⟩ : ∃ x, x = xb[j]'(by rw [HQ.out.lb]; exact hlt2) := ⟨_, rfl⟩
                rw [← hx] at c1 c2
                obtain ⟨y, hy⟩ : ∃ y, y = (q + j) % k := ⟨_, rfl⟩
                rw [← hy] at c2 erem hml
                have hyk : (y : Int) < (k : Int) := by omega
                have ew2 : IntKind.i64.wrap (y : Int) = (y : Int) := by rw [IntKind.wrap_i64]; omega
                have hk0 : ¬ k = 0 := by omega
                have hkm : ¬ ((k : Int) = -1) := by omega
                have hk0' : ¬ ((k : Int) = 0) := by omega
                clear hx hall hy
                go_wp2
                go_quiet (fail)
                go_wp2
                go_roundg (k - (j + 1))
                case measure => omega
                case rel => (try ((repeat apply Exists.intro); refine ⟨?_, rfl⟩)); exact ⟨j + 1, by go_num, by omega, rfl, _, rfl⟩
              · obtain rfl : j = k := by omega
                have c0 := HA.out 0 (by rw [HQ.out.la]; omega)
                have hf := HQ.out.first
                rw [List.getElem?_eq_getElem (by rw [HQ.out.la]; omega), Option.some.injEq] at hf
                rw [hf] at c0
                clear hf
                go_wp2
                go_ret
                exact ⟨rfl, below_drew HT.out _⟩

end Go.Proofs.Ytepjcjkfhadcgaa
