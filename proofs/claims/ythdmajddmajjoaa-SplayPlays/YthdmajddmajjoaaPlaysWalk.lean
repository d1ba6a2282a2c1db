/- The walk of the law SplayPlays. -/
import Derived.Test.YthdmajddmajjoaaLaw
import Derived.Test.YthdmajddmajjoaaEnds3
import Derived.Test.YthdmajddmajjoaaOpsX
namespace Go.Proofs.Ythdmajddmajjoaa
open Go.ChangeShapes Go.WideShapes Go.ChangeAt Go.RowKit
set_option linter.unusedVariables false

theorem SAL.pos {D k : Nat} (h : SAL D k) (hD : 0 < D) : Pos k := Nat.lt_of_lt_of_le hD h.1
theorem SAL.apart {k : Nat} (h : SAL 1 k) : ¬ SAL 100000000000000 k := fun h2 => by have := h.2; have := h2.1; omega
theorem SAL.apart' {k : Nat} (h : SAL 100000000000000 k) : ¬ SAL 1 k := fun h2 => h2.apart h
theorem SA.new {w : World} {o : Nat → Nat} {D p q room : Nat} {s : Sta} (hF : FoS w o (D + 100) p room s) (hX : RxS w o (D + 10000) q room 0 s) :
    SA (w.alloc (.cells #[pv p, pv q, .slice none 0 0, .slice none 0 0] 34)) (newLab w o D) D w.heap.size p q room 0 s :=
  ⟨_, _, [], [], [], ⟨⟨heap_alloc_new w _, newLab_new (Nat.le_refl _)⟩, hF.step (newStep (fun _ => False) w o D _) (fun _ _ => id), hX.step (newStep (fun _ => False) w o D _) (fun _ _ => id)⟩, Row.nil _ _ _ _ _, Row.nil _ _ _ _ _, Lists.nil _ _ _⟩
theorem room_cases (c : Int) : (c < 0 ∨ 1024 < c) ∨ ∃ r : Nat, r ≤ 1024 ∧ c = r := by
  by_cases h : c < 0 ∨ 1024 < c
  · exact .inl h
  · exact .inr ⟨c.toNat, by omega, by omega⟩
def sta0 : Sta := ⟨0, [], fun _ => ⟨0, false, 0⟩, fun _ => []⟩

set_option maxRecDepth 100000 in
set_option maxHeartbeats 4000000 in
theorem plays_none (c d : Int) (v : Value) (w : World) (hc : c < 0 ∨ 1024 < c) (hd : d < 0 ∨ 1024 < d) :
    Calls Try.prog 3 #[.int .i64 c, .int .i64 d, v] w fun e w' => e = .returned (.bool true) ∧ Below w.heap.size w w' := by
  go_enter Try.func3, Try.ntmps3
  go_wp2_with fail
  refine (awake_any w).mono ?_
  rintro e w1 ⟨rfl, hb1⟩
  go_wp2_with fail
  refine (newBadF w1 c hc).mono ?_
  rintro e w2 ⟨rfl, rfl⟩
  go_wp2_with fail
  refine (newBadF _ d hd).mono ?_
  rintro e w3 ⟨rfl, rfl⟩
  go_wp2_with fail
  refine (x_new_bad _ c hc).mono ?_
  rintro e w4 ⟨rfl, rfl⟩
  go_wp2_with fail
  refine (x_new_bad _ d hd).mono ?_
  rintro e w5 ⟨rfl, rfl⟩
  clear hc hd
  go_wp2
  go_ret
  exact ⟨rfl, hb1⟩

set_option maxRecDepth 100000 in
set_option maxHeartbeats 4000000 in
theorem plays_first (c : Int) (s : Nat) (v : Value) (w : World) (hc : c < 0 ∨ 1024 < c) (hs : s ≤ 1024) :
    Calls Try.prog 3 #[.int .i64 c, .int .i64 s, v] w fun e w' => e = .returned (.bool true) ∧ Below w.heap.size w w' := by
  go_enter Try.func3, Try.ntmps3
  go_wp2_with fail
  refine (awake_any w).mono ?_
  rintro e w1 ⟨rfl, hb1⟩
  have t1 : Step Pos w o0 w1 o0 := Step.ofBelow o0 hb1
  go_wp2_with fail
  refine (newBadF w1 c hc).mono ?_
  rintro e w2 ⟨rfl, rfl⟩
  go_wp2_with fail
  refine (newF _ o0 102 s (fun _ => ⟨0, false, 0⟩) (fun _ => []) hs).mono ?_
  rintro e w3 ⟨p3, rfl, o3, a3, s3⟩
  have t3 := t1.trans (s3.mono fun _ h => h.elim)
  go_wp2_with fail
  refine (x_new_bad _ c hc).mono ?_
  rintro e w4 ⟨rfl, rfl⟩
  go_wp2_with fail
  refine (x_new _ o3 10002 s 0 (fun _ => ⟨0, false, 0⟩) (fun _ => []) hs (by omega)).mono ?_
  rintro e w5 ⟨q, rfl, o5, pa, vi, vn, r5, s5⟩
  have t5 := (t3.trans (s5.mono fun _ h => h.elim)).old
  clear hc hs a3 s3 t3 t1 hb1 r5 s5
  go_wp2
  go_ret
  exact ⟨rfl, t5⟩

set_option maxRecDepth 100000 in
set_option maxHeartbeats 4000000 in
theorem plays_second (r : Nat) (d : Int) (v : Value) (w : World) (hr : r ≤ 1024) (hd : d < 0 ∨ 1024 < d) :
    Calls Try.prog 3 #[.int .i64 r, .int .i64 d, v] w fun e w' => e = .returned (.bool true) ∧ Below w.heap.size w w' := by
  go_enter Try.func3, Try.ntmps3
  go_wp2_with fail
  refine (awake_any w).mono ?_
  rintro e w1 ⟨rfl, hb1⟩
  have t1 : Step Pos w o0 w1 o0 := Step.ofBelow o0 hb1
  go_wp2_with fail
  refine (newF _ o0 101 r (fun _ => ⟨0, false, 0⟩) (fun _ => []) hr).mono ?_
  rintro e w2 ⟨p2, rfl, o2, a2, s2⟩
  have t2 := t1.trans (s2.mono fun _ h => h.elim)
  go_wp2_with fail
  refine (newBadF _ d hd).mono ?_
  rintro e w3 ⟨rfl, rfl⟩
  go_wp2_with fail
  refine (x_new _ o2 10001 r 0 (fun _ => ⟨0, false, 0⟩) (fun _ => []) hr (by omega)).mono ?_
  rintro e w4 ⟨q, rfl, o4, pa, vi, vn, r4, s4⟩
  have t4 := (t2.trans (s4.mono fun _ h => h.elim)).old
  go_wp2_with fail
  refine (x_new_bad _ d hd).mono ?_
  rintro e w5 ⟨rfl, rfl⟩
  clear hr hd a2 s2 t2 t1 hb1 r4 s4
  go_wp2
  go_ret
  exact ⟨rfl, t4⟩

set_option maxRecDepth 100000 in
set_option maxHeartbeats 8000000 in
theorem plays_both (r s : Nat) (ao : Option Addr) (len cap : Nat) (f : Nat → OpX) (w : World) (hr : r ≤ 1024) (hs : s ≤ 1024) (hlen : len * 56 ≤ 140737488351232) (ha : ArgOps w o0 ao len f) :
    Calls Try.prog 3 #[.int .i64 r, .int .i64 s, .slice ao len cap] w fun e w' => e = .returned (.bool true) ∧ Below w.heap.size w w' := by
  go_enter Try.func3, Try.ntmps3
  go_wp2_with fail
  refine (awake_any w).mono ?_
  rintro e w1 ⟨rfl, hb1⟩
  have t1 : Step Pos w o0 w1 o0 := Step.ofBelow o0 hb1
  go_wp2_with fail
  refine (newF _ o0 (1 + 100) r sta0.it sta0.S hr).mono ?_
  rintro e w2 ⟨pa, rfl, o2, a2, s2⟩
  have t2 := t1.trans (s2.mono fun _ h => h.elim)
  clear t1 s2 hb1
  go_wp2_with fail
  refine (newF _ o2 (100000000000000 + 100) s sta0.it sta0.S hs).mono ?_
  rintro e w3 ⟨pb, rfl, o3, b3, s3⟩
  have t3 := t2.trans (s3.mono fun _ h => h.elim)
  have a3 := FoS.step (s := sta0) a2 s3 (fun _ _ => id)
  clear t2 s3 a2
  go_wp2_with fail
  refine (x_new _ o3 (1 + 10000) r 0 sta0.it sta0.S hr (by omega)).mono ?_
  rintro e w4 ⟨qx, rfl, o4, pa4, vi4, vn4, x4', s4⟩
  have x4 : RxS w4 o4 (1 + 10000) qx r 0 sta0 := ⟨_, _, _, _, _, _, _, _, x4'⟩
  have t4 := t3.trans (s4.mono fun _ h => h.elim)
  have a4 := a3.step s4 (fun _ _ => id)
  have b4 := FoS.step (s := sta0) b3 s4 (fun _ _ => id)
  clear t3 s4 a3 b3 x4' pa4 vi4 vn4
  go_wp2_with fail
  refine (x_new _ o4 (100000000000000 + 10000) s 0 sta0.it sta0.S hs (by omega)).mono ?_
  rintro e w5 ⟨qy, rfl, o5, pa5, vi5, vn5, y5', s5⟩
  have y5 : RxS w5 o5 (100000000000000 + 10000) qy s 0 sta0 := ⟨_, _, _, _, _, _, _, _, y5'⟩
  have t5 := t4.trans (s5.mono fun _ h => h.elim)
  have a5 := a4.step s5 (fun _ _ => id)
  have b5 := b4.step s5 (fun _ _ => id)
  have x5 := x4.step s5 (fun _ _ => id)
  clear t4 s5 a4 b4 x4 y5' pa5 vi5 vn5
  have F6 := SA.new a5 x5
  have n6 := newStep (fun _ => False) w5 o5 1 (.cells #[pv pa, pv qx, .slice none 0 0, .slice none 0 0] 34)
  have b6 := b5.step n6 (fun _ _ => id)
  have y6 := y5.step n6 (fun _ _ => id)
  have t6 := t5.trans (n6.mono fun _ h => h.elim)
  have G7 := SA.new b6 y6
  have n7 := newStep (fun _ => False) (w5.alloc (.cells #[pv pa, pv qx, .slice none 0 0, .slice none 0 0] 34)) (newLab w5 o5 1) 100000000000000 (.cells #[pv pb, pv qy, .slice none 0 0, .slice none 0 0] 34)
  have F7 := F6.step n7 (fun _ _ => id)
  have t7 := t6.trans (n7.mono fun _ h => h.elim)
  have hsz : (w5.alloc (.cells #[pv pa, pv qx, .slice none 0 0, .slice none 0 0] 34)).heap.size = w5.heap.size + 1 := by simp
  rw [hsz] at G7
  clear F6 n6 b6 y6 t6 n7 a5 b5 x5 y5 t5 hsz
  simp only [pv] at F7 G7 t7
  go_wp2
  go_loopw [18] (fun i wr => ∃ k : Nat, k ≤ len ∧ i = .int .i64 k ∧ ∃ o' M1 M2 s1 s2, M1 ≤ 2 * k ∧ M2 ≤ 2 * k ∧ SA wr o' 1 w5.heap.size pa qx r M1 s1 ∧ SA wr o' 100000000000000 (w5.heap.size + 1) pb qy s M2 s2 ∧ Step Pos w o0 wr o') (fun i _ => len - (intOf i).toNat)
  case atStart => exact ⟨0, by omega, by go_num, _, 0, 0, _, _, by omega, by omega, F7, G7, t7⟩
  case round =>
    clear F7 G7 t7
    obtain ⟨k, hk, rfl, o8, M1, M2, s1, s2, hM1, hM2, F8, G8, t8⟩ := hrel
    by_cases hlt : k < len
    · obtain ⟨b, off, rfl, hb, hob, m0, m1, m2, m3, m4, m5, m6⟩ := (ha.step t8 (by simp [Pos])) k hlt
      obtain ⟨u, hu⟩ : ∃ u, u = f k := ⟨_, rfl⟩
      rw [← hu] at m0 m1 m2 m3 m4 m5 m6
      obtain ⟨kd, qa, qb, qv, qc, qf, qo⟩ := u
      have HC : Hid (∀ (wx : World) (ox : Nat → Nat), Step Pos w o0 wx ox → wx.cell? ⟨b, off + k * 7, none⟩ = some (.int .i64 kd) ∧ wx.cell? ⟨b, off + k * 7 + 1, none⟩ = some (.int .i64 qa) ∧ wx.cell? ⟨b, off + k * 7 + 2, none⟩ = some (.int .i64 qb) ∧ wx.cell? ⟨b, off + k * 7 + 3, none⟩ = some (.int .i64 qv) ∧ wx.cell? ⟨b, off + k * 7 + 4, none⟩ = some (.bool qc) ∧ wx.cell? ⟨b, off + k * 7 + 5, none⟩ = some (.int .i64 qf) ∧ wx.cell? ⟨b, off + k * 7 + 6, none⟩ = some (.bool qo)) := fun wx ox hst => by
        obtain ⟨b', off', hv, _, _, n0, n1, n2, n3, n4, n5, n6⟩ := (ha.step hst (by simp [Pos])) k hlt
        simp only [Option.some.injEq, Addr.mk.injEq, and_true] at hv
        obtain ⟨rfl, rfl⟩ := hv
        rw [← hu] at n0 n1 n2 n3 n4 n5 n6
        exact ⟨n0, n1, n2, n3, n4, n5, n6⟩
      clear hu hb hob
      cases qo with
      | false =>
        obtain ⟨s3, c3⟩ := changes_sa F8 (by omega) hr ⟨kd, qa, qb, qv, qc, qf, false⟩
        simp only [opxV, pv] at c3
        go_wp2_with fail
        refine c3.mono ?_
        rintro e w9 ⟨rfl, o9, F9, st9⟩
        have G9 := G8.step st9 (fun _ hk h => h.apart hk)
        have t9 := t8.trans (st9.mono fun _ h => h.pos (by omega))
        clear c3 F8 G8 t8 st9 m0 m1 m2 m3 m4 m5 m6
        obtain ⟨m0, m1, m2, m3, m4, m5, m6⟩ := HC.out _ _ t9
        have c4 := asks_sa F9 (by omega) ⟨kd, qa, qb, qv, qc, qf, false⟩
        simp only [opxV, pv] at c4
        go_wp2_with fail
        refine c4.mono ?_
        rintro e w10 ⟨rfl, o10, F10, st10⟩
        have G10 := G9.step st10 (fun _ hk h => h.apart hk)
        have t10 := t9.trans (st10.mono fun _ h => h.pos (by omega))
        clear c4 F9 G9 t9 st10 HC m0 m1 m2 m3 m4 m5 m6
        go_wp2
        go_roundw
        case rel => (try ((repeat apply Exists.intro); refine ⟨?_, rfl⟩)); exact ⟨k + 1, by omega, by go_num, o10, M1 + 1 + 1, M2, _, _, by omega, by omega, F10, G10, t10⟩
        case measure => simp [intOf]; omega
      | true =>
        obtain ⟨s3, c3⟩ := changes_sa G8 (by omega) hs ⟨kd, qa, qb, qv, qc, qf, true⟩
        simp only [opxV, pv] at c3
        go_wp2_with fail
        refine c3.mono ?_
        rintro e w9 ⟨rfl, o9, G9, st9⟩
        have F9 := F8.step st9 (fun _ hk h => h.apart' hk)
        have t9 := t8.trans (st9.mono fun _ h => h.pos (by omega))
        clear c3 F8 G8 t8 st9 m0 m1 m2 m3 m4 m5 m6
        obtain ⟨m0, m1, m2, m3, m4, m5, m6⟩ := HC.out _ _ t9
        have c4 := asks_sa G9 (by omega) ⟨kd, qa, qb, qv, qc, qf, true⟩
        simp only [opxV, pv] at c4
        go_wp2_with fail
        refine c4.mono ?_
        rintro e w10 ⟨rfl, o10, G10, st10⟩
        have F10 := F9.step st10 (fun _ hk h => h.apart' hk)
        have t10 := t9.trans (st10.mono fun _ h => h.pos (by omega))
        clear c4 F9 G9 t9 st10 HC m0 m1 m2 m3 m4 m5 m6
        go_wp2
        go_roundw
        case rel => (try ((repeat apply Exists.intro); refine ⟨?_, rfl⟩)); exact ⟨k + 1, by omega, by go_num, o10, M1, M2 + 1 + 1, _, _, by omega, by omega, F10, G10, t10⟩
        case measure => simp [intOf]; omega
    · obtain rfl : k = len := by omega
      clear ha hlt hk
      go_wp2_with fail
      refine (ends3 _ o8 1 w5.heap.size pa qx r M1 s1 (by omega) F8).mono ?_
      rintro e w9 ⟨rfl, o9, s9⟩
      have G9 := G8.step s9 (fun _ hk h => h.apart hk)
      have t9 := t8.trans (s9.mono fun _ h => h.pos (by omega))
      clear F8 G8 t8 s9
      go_wp2_with fail
      refine (ends3 _ o9 100000000000000 (w5.heap.size + 1) pb qy s M2 s2 (by omega) G9).mono ?_
      rintro e w10 ⟨rfl, o10, s10⟩
      have t10 := (t9.trans (s10.mono fun _ h => h.pos (by omega))).old
      clear G9 t9 s10
      go_wp2
      go_ret
      exact ⟨ret_bool (by simp), t10⟩

theorem plays_walk (w : World) (c d : Int) (ao : Option Addr) (len cap : Nat) (f : Nat → OpX) (ha : ArgOps w o0 ao len f) (hlen : len * 56 ≤ 140737488351232) (_ : -9223372036854775808 ≤ c ∧ c ≤ 9223372036854775807) (_ : -9223372036854775808 ≤ d ∧ d ≤ 9223372036854775807) :
    Calls Try.prog 3 #[.int .i64 c, .int .i64 d, .slice ao len cap] w fun e w' => e = .returned (.bool true) ∧ Below w.heap.size w w' := by
  rcases room_cases c with hc | ⟨r, hr, rfl⟩
  · rcases room_cases d with hd | ⟨s, hs, rfl⟩
    · exact plays_none c d _ w hc hd
    · exact plays_first c s _ w hc hs
  · rcases room_cases d with hd | ⟨s, hs, rfl⟩
    · exact plays_second r d _ w hr hd
    · exact plays_both r s ao len cap f w hr hs hlen ha

end Go.Proofs.Ythdmajddmajjoaa
