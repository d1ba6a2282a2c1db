/- Bottleneck; New. -/
import Derived.Test.YtffmlffhiimmdaaIns7
namespace Go.Proofs.Ytffmlffhiimmdaa
open Go.ChangeShapes Go.WideShapes Go.ChangeAt Go.RowKit Go.Maps
set_option linter.unusedVariables false

set_option maxRecDepth 100000 in
set_option maxHeartbeats 4000000 in
theorem bottle_ok (w : World) (o : Nat → Nat) (L p n : Nat) (D ed : Nat → Option Ed) (m c u v : Nat) (X : Mx w o L p n D ed m c) (hu : u < n) (hv : v < n) (huv : u ≠ v) (hd : Cn (fun _ => True) D u v) :
    Calls Try.prog 21 #[.pointer (some ⟨p, 0, none⟩), .int .i64 (u : Nat), .int .i64 (v : Nat)] w fun e w' => ∃ t y, e = .returned (.tuple #[.agg #[.int .i64 (t : Nat), .int .i64 (y.u : Nat), .int .i64 (y.v : Nat), .int .i64 y.w], .int .i64 0]) ∧ (D t = some y ∧ IsBn D u v t) ∧ ∃ o', Mx w' o' L p n D ed m c ∧ Step (ML L) w o w' o' := by
  have X0 := X
  obtain ⟨⟨hM, hok⟩, R, XR⟩ := X
  obtain ⟨hA, hok2, hT, hn1, hn2⟩ := XR.tx
  obtain ⟨bm, q, B, MM, T⟩ := XR
  have hhu := fun o' (B' : Blk (w.alloc (.cells #[.int .i64 0, .int .i64 0, .int .i64 0, .int .i64 0] 43)) o' L p _) => has7 _ o' L p n bm q u B' hu
  have hdd : (R (2 * u + 1)).head? = (R (2 * v + 1)).head? := (heads_cn hA hok2 hT hu hv).2 (hM.down (fun _ _ _ _ => trivial) hd)
  have n1 := newStep (fun _ => False) w o (L + 4000000000005) (.cells #[.int .i64 0, .int .i64 0, .int .i64 0, .int .i64 0] 43)
  have B0 : Blk (w.alloc (.cells #[.int .i64 0, .int .i64 0, .int .i64 0, .int .i64 0] 43)) (newLab w o (L + 4000000000005)) (L + 4000000000005) w.heap.size (.cells #[.int .i64 0, .int .i64 0, .int .i64 0, .int .i64 0] 43 (0, 0)) := ⟨heap_alloc_new w _, newLab_new (Nat.le_refl _)⟩
  have B1 := B.step n1 id
  have M1 := MM.step n1 id
  have T1 := T.step n1 (fun _ _ => id)
  obtain ⟨b0, hb0⟩ : ∃ b0, b0 = w.heap.size := ⟨_, rfl⟩
  have HB0 : Hid (b0 = w.heap.size) := hb0
  rw [← hb0] at B0
  clear hb0 hhu
  generalize newLab w o (L + 4000000000005) = o1 at n1 B0 B1 M1 T1
  obtain ⟨w1, hw1⟩ : ∃ w1, w1 = w.alloc (.cells #[.int .i64 0, .int .i64 0, .int .i64 0, .int .i64 0] 43) := ⟨_, rfl⟩
  rw [← hw1] at n1 B0 B1 M1 T1
  have hhu := has7 w1 o1 L p n bm q u B1 hu
  have hhv := has7 w1 o1 L p n bm q v B1 hv
  have hmo := most_in w1 o1 (L + 2) q n ed R c u v (L + 4000000000006) T1 hu hv huv hdd (fun h => by have := h.2; omega) (way_edge hA hok2 hT hu hv huv hdd)
  obtain ⟨⟨p0, p1, p2⟩, pf⟩ := B1.cell3
  have nl : ∀ k, k = L ∨ k = L + 1 ∨ k = L + 4000000000005 → ¬ (TL (L + 2) k ∨ k = L + 4000000000006) := fun k hk h => by
    rcases h with h | h
    · have := h.1; have := h.2; omega
    · omega
  clear B MM T X0 T1
  go_enter Try.func21, Try.ntmps21
  go_wp2_with fail
  rw [← hw1, ← HB0.out]
  clear hw1 HB0
  refine hhu.mono ?_
  rintro e w2 ⟨rfl, hw2⟩
  obtain rfl := hw2
  go_wp2_with fail
  refine hhv.mono ?_
  rintro e w3 ⟨rfl, hw3⟩
  obtain rfl := hw3
  go_wp2_with fail
  refine hmo.mono ?_
  rintro e w4 ⟨t, o4, rfl, ⟨ht, t0⟩, T4, s4⟩
  obtain ⟨k, y, rfl, q1, q2, q3, q4⟩ := top_cn hM hA hok2 hT hu hv hdd ht t0
  have ek : (2 * k + 2 - 2) / 2 = k := by omega
  rw [q2, ek]
  have E4 := B0.step s4 (nl _ (.inr (.inr rfl)))
  obtain ⟨yu, yv, yw⟩ := y
  simp only
  have n5 := newStep (fun _ => False) w4 o4 (L + 4000000000007) (.cells #[.int .i64 (k : Nat), .int .i64 (yu : Nat), .int .i64 (yv : Nat), .int .i64 yw] 43)
  have F5 : Blk (w4.alloc (.cells #[.int .i64 (k : Nat), .int .i64 (yu : Nat), .int .i64 (yv : Nat), .int .i64 yw] 43)) (newLab w4 o4 (L + 4000000000007)) (L + 4000000000007) w4.heap.size (.cells #[.int .i64 (k : Nat), .int .i64 (yu : Nat), .int .i64 (yv : Nat), .int .i64 yw] 43 (0, 0)) := ⟨heap_alloc_new w4 _, newLab_new (Nat.le_refl _)⟩
  have E5 := E4.step n5 id
  obtain ⟨⟨x0, x1, x2, x3⟩, xf⟩ := F5.cell4
  obtain ⟨⟨e0, e1, e2, e3⟩, ef⟩ := E5.cell4
  have RR : (D k = some ⟨yu, yv, yw⟩ ∧ IsBn D u v k) ∧ ∃ o', Mx ((((( w4.alloc (.cells #[.int .i64 (k : Nat), .int .i64 (yu : Nat), .int .i64 (yv : Nat), .int .i64 yw] 43)).setCell ⟨b0, 0, none⟩ (.int .i64 (k : Nat))).setCell ⟨b0, 1, none⟩ (.int .i64 (yu : Nat))).setCell ⟨b0, 2, none⟩ (.int .i64 (yv : Nat))).setCell ⟨b0, 3, none⟩ (.int .i64 yw)) o' L p n D ed m c ∧ Step (ML L) w o ((((( w4.alloc (.cells #[.int .i64 (k : Nat), .int .i64 (yu : Nat), .int .i64 (yv : Nat), .int .i64 yw] 43)).setCell ⟨b0, 0, none⟩ (.int .i64 (k : Nat))).setCell ⟨b0, 1, none⟩ (.int .i64 (yu : Nat))).setCell ⟨b0, 2, none⟩ (.int .i64 (yv : Nat))).setCell ⟨b0, 3, none⟩ (.int .i64 yw)) o' := by
    refine ⟨⟨hM.sub _ _ q1, hM.bn q3 q4⟩, newLab w4 o4 (L + 4000000000007), ?_⟩
    have g0 := E5.stp2 0 (.int .i64 (k : Nat))
    have C1 := E5.set 0 (.int .i64 (k : Nat))
    have g1 := C1.stp2 1 (.int .i64 (yu : Nat))
    have C2 := C1.set 1 (.int .i64 (yu : Nat))
    have g2 := C2.stp2 2 (.int .i64 (yv : Nat))
    have C3 := C2.set 2 (.int .i64 (yv : Nat))
    have g3 := C3.stp2 3 (.int .i64 yw)
    have E := ((g0.trans g1).trans g2).trans g3
    refine ⟨⟨⟨hM, hok⟩, R, bm, q, ?_, ?_, ?_⟩, ?_⟩
    · exact ((B1.step s4 (nl _ (.inl rfl))).step n5 id).step E (by omega)
    · exact ((M1.step s4 (nl _ (.inr (.inl rfl)))).step n5 id).step E (by omega)
    · exact (T4.step n5 (fun _ _ => id)).step E (fun k hk z => by have := hk.2; omega)
    · exact (((n1.mono fun _ h => h.elim).trans (s4.mono fun k hk => hk.elim (fun h => h.ml) (fun h => ⟨by omega, by omega⟩))).trans (n5.mono fun _ h => h.elim)).trans (E.mono fun k hk => by subst hk; exact ⟨by omega, by omega⟩)
  clear hmo hhu hhv T4 s4 E4 F5 E5 n5 B0 B1 M1 n1 ht
  go_wp2
  exact bodyPost_ret (v := .tuple #[.agg #[.int .i64 (k : Nat), .int .i64 (yu : Nat), .int .i64 (yv : Nat), .int .i64 yw], .int .i64 0]) (by simp [results, Try.results21, go_sem, e0, e1, e2, e3]) rfl ⟨k, ⟨yu, yv, yw⟩, rfl, RR⟩

set_option maxRecDepth 100000 in
set_option maxHeartbeats 4000000 in
theorem bottle_none (w : World) (o : Nat → Nat) (L p n : Nat) (D ed : Nat → Option Ed) (m c u v : Nat) (X : Mx w o L p n D ed m c) (hu : u < n) (hv : v < n) (hd : u = v ∨ ¬ Cn (fun _ => True) D u v) :
    Calls Try.prog 21 #[.pointer (some ⟨p, 0, none⟩), .int .i64 (u : Nat), .int .i64 (v : Nat)] w fun e w' => e = .returned (.tuple #[.agg #[.int .i64 0, .int .i64 0, .int .i64 0, .int .i64 0], .int .i64 75]) ∧ ∃ o', Mx w' o' L p n D ed m c ∧ Step (ML L) w o w' o' := by
  have X0 := X
  obtain ⟨⟨hM, hok⟩, R, XR⟩ := X
  obtain ⟨hA, hok2, hT, hn1, hn2⟩ := XR.tx
  obtain ⟨bm, q, B, MM, T⟩ := XR
  have hhu := fun o' (B' : Blk (w.alloc (.cells #[.int .i64 0, .int .i64 0, .int .i64 0, .int .i64 0] 43)) o' L p _) => has7 _ o' L p n bm q u B' hu
  have n1 := newStep (fun _ => False) w o (L + 4000000000005) (.cells #[.int .i64 0, .int .i64 0, .int .i64 0, .int .i64 0] 43)
  have B0 : Blk (w.alloc (.cells #[.int .i64 0, .int .i64 0, .int .i64 0, .int .i64 0] 43)) (newLab w o (L + 4000000000005)) (L + 4000000000005) w.heap.size (.cells #[.int .i64 0, .int .i64 0, .int .i64 0, .int .i64 0] 43 (0, 0)) := ⟨heap_alloc_new w _, newLab_new (Nat.le_refl _)⟩
  have B1 := B.step n1 id
  have M1 := MM.step n1 id
  have T1 := T.step n1 (fun _ _ => id)
  obtain ⟨b0, hb0⟩ : ∃ b0, b0 = w.heap.size := ⟨_, rfl⟩
  have HB0 : Hid (b0 = w.heap.size) := hb0
  rw [← hb0] at B0
  clear hb0 hhu
  generalize newLab w o (L + 4000000000005) = o1 at n1 B0 B1 M1 T1
  obtain ⟨w1, hw1⟩ : ∃ w1, w1 = w.alloc (.cells #[.int .i64 0, .int .i64 0, .int .i64 0, .int .i64 0] 43) := ⟨_, rfl⟩
  rw [← hw1] at n1 B0 B1 M1 T1
  have hhu := has7 w1 o1 L p n bm q u B1 hu
  have hhv := has7 w1 o1 L p n bm q v B1 hv
  have hmo : Calls Try.prog 40 #[.pointer (some ⟨q, 0, none⟩), .int .i64 u, .int .i64 v] w1 fun e w' => ∃ o', e = .returned (.tuple #[.agg #[.int .i64 0, .int .i64 0, .int .i64 0, .int .i64 0], .int .i64 54]) ∧ Tx w' o' (L + 2) q n ed R c ∧ Step (fun k => TL (L + 2) k ∨ k = L + 4000000000006) w1 o1 w' o' := by
    by_cases huv : u = v
    · subst huv
      refine (most_self w1 o1 (L + 2) q n ed R c u T1 hu).mono ?_
      rintro e w' ⟨o', h1, h2, h3⟩
      exact ⟨o', h1, h2, h3.mono fun k hk => .inl hk⟩
    · have hdd : (R (2 * u + 1)).head? ≠ (R (2 * v + 1)).head? := fun e => (hd.resolve_left huv) (hM.up ((heads_cn hA hok2 hT hu hv).1 e))
      refine (most_none w1 o1 (L + 2) q n ed R c u v T1 hu hv hdd).mono ?_
      rintro e w' ⟨o', h1, h2, h3⟩
      exact ⟨o', h1, h2, h3.mono fun k hk => .inl hk⟩
  obtain ⟨⟨p0, p1, p2⟩, pf⟩ := B1.cell3
  have nl : ∀ k, k = L ∨ k = L + 1 ∨ k = L + 4000000000005 → ¬ (TL (L + 2) k ∨ k = L + 4000000000006) := fun k hk h => by
    rcases h with h | h
    · have := h.1; have := h.2; omega
    · omega
  clear B MM T X0 T1
  go_enter Try.func21, Try.ntmps21
  go_wp2_with fail
  rw [← hw1, ← HB0.out]
  clear hw1 HB0
  refine hhu.mono ?_
  rintro e w2 ⟨rfl, hw2⟩
  obtain rfl := hw2
  go_wp2_with fail
  refine hhv.mono ?_
  rintro e w3 ⟨rfl, hw3⟩
  obtain rfl := hw3
  go_wp2_with fail
  refine hmo.mono ?_
  rintro e w4 ⟨o4, rfl, T4, s4⟩
  have E4 := B0.step s4 (nl _ (.inr (.inr rfl)))
  have n5 := newStep (fun _ => False) w4 o4 (L + 4000000000007) (.cells #[.int .i64 0, .int .i64 0, .int .i64 0, .int .i64 0] 43)
  have E5 := E4.step n5 id
  obtain ⟨⟨e0, e1, e2, e3⟩, ef⟩ := E5.cell4
  have RR : ∃ o', Mx ((((( w4.alloc (.cells #[.int .i64 0, .int .i64 0, .int .i64 0, .int .i64 0] 43)).setCell ⟨b0, 0, none⟩ (.int .i64 0)).setCell ⟨b0, 1, none⟩ (.int .i64 0)).setCell ⟨b0, 2, none⟩ (.int .i64 0)).setCell ⟨b0, 3, none⟩ (.int .i64 0)) o' L p n D ed m c ∧ Step (ML L) w o ((((( w4.alloc (.cells #[.int .i64 0, .int .i64 0, .int .i64 0, .int .i64 0] 43)).setCell ⟨b0, 0, none⟩ (.int .i64 0)).setCell ⟨b0, 1, none⟩ (.int .i64 0)).setCell ⟨b0, 2, none⟩ (.int .i64 0)).setCell ⟨b0, 3, none⟩ (.int .i64 0)) o' := by
    refine ⟨newLab w4 o4 (L + 4000000000007), ?_⟩
    have g0 := E5.stp2 0 (.int .i64 0)
    have C1 := E5.set 0 (.int .i64 0)
    have g1 := C1.stp2 1 (.int .i64 0)
    have C2 := C1.set 1 (.int .i64 0)
    have g2 := C2.stp2 2 (.int .i64 0)
    have C3 := C2.set 2 (.int .i64 0)
    have g3 := C3.stp2 3 (.int .i64 0)
    have E := ((g0.trans g1).trans g2).trans g3
    refine ⟨⟨⟨hM, hok⟩, R, bm, q, ?_, ?_, ?_⟩, ?_⟩
    · exact ((B1.step s4 (nl _ (.inl rfl))).step n5 id).step E (by omega)
    · exact ((M1.step s4 (nl _ (.inr (.inl rfl)))).step n5 id).step E (by omega)
    · exact (T4.step n5 (fun _ _ => id)).step E (fun k hk z => by have := hk.2; omega)
    · exact (((n1.mono fun _ h => h.elim).trans (s4.mono fun k hk => hk.elim (fun h => h.ml) (fun h => ⟨by omega, by omega⟩))).trans (n5.mono fun _ h => h.elim)).trans (E.mono fun k hk => by subst hk; exact ⟨by omega, by omega⟩)
  clear hmo hhu hhv T4 s4 E4 E5 n5 B0 B1 M1 n1
  go_wp2
  exact bodyPost_ret (v := .tuple #[.agg #[.int .i64 0, .int .i64 0, .int .i64 0, .int .i64 0], .int .i64 75]) (by simp [results, Try.results21, go_sem, e0, e1, e2, e3]) rfl ⟨rfl, RR⟩

set_option maxRecDepth 100000 in
set_option maxHeartbeats 4000000 in
theorem new7 (w : World) (o : Nat → Nat) (L n : Nat) (h1 : 1 ≤ n) (h2 : n ≤ 64) :
    Calls Try.prog 10 #[.int .i64 (n : Nat)] w fun e w' => ∃ p o', e = .returned (.tuple #[.pointer (some ⟨p, 0, none⟩), .int .i64 0]) ∧ Mx w' o' L p n (fun _ => none) (fun _ => none) 0 0 ∧ Step (ML L) w o w' o' := by
  have hne := new_in w o (L + 2) n h1 h2
  have hmm := @run_makeMap Try.prog
  go_enter Try.func10, Try.ntmps10
  go_wp2_with fail
  refine hne.mono ?_
  rintro e w1 ⟨q, o1, rfl, T1, s1⟩
  have n2 := newStep (fun _ => False) w1 o1 (L + 1) (.map #[] 0)
  have M2 := MsM.made w1 o1 (L + 1)
  have T2 := T1.step n2 (fun _ _ => id)
  have n3 := newStep (fun _ => False) (w1.alloc (.map #[] 0)) (newLab w1 o1 (L + 1)) L (.cells #[.int .i64 (n : Nat), .map (some w1.heap.size), .pointer (some ⟨q, 0, none⟩)] 68)
  have B3 : Blk ((w1.alloc (.map #[] 0)).alloc (.cells #[.int .i64 (n : Nat), .map (some w1.heap.size), .pointer (some ⟨q, 0, none⟩)] 68)) (newLab (w1.alloc (.map #[] 0)) (newLab w1 o1 (L + 1)) L) L (w1.heap.size + 1) (.cells #[.int .i64 (n : Nat), .map (some w1.heap.size), .pointer (some ⟨q, 0, none⟩)] 68 (0, 0)) := by
    have hs : (w1.alloc (.map #[] 0)).heap.size = w1.heap.size + 1 := by rw [World.size_alloc]
    refine ⟨?_, newLab_new (by omega)⟩
    rw [← hs]
    exact heap_alloc_new _ _
  have RR : ∃ o', Mx ((w1.alloc (.map #[] 0)).alloc (.cells #[.int .i64 (n : Nat), .map (some w1.heap.size), .pointer (some ⟨q, 0, none⟩)] 68)) o' L (w1.heap.size + 1) n (fun _ => none) (fun _ => none) 0 0 ∧ Step (ML L) w o ((w1.alloc (.map #[] 0)).alloc (.cells #[.int .i64 (n : Nat), .map (some w1.heap.size), .pointer (some ⟨q, 0, none⟩)] 68)) o' :=
    ⟨_, ⟨⟨Mf.new, fun i x h => by simp at h⟩, _, w1.heap.size, q, B3, (M2.step n3 id), T2.step n3 (fun _ _ => id)⟩, ((s1.mono fun k hk => hk.ml).trans (n2.mono fun _ h => h.elim)).trans (n3.mono fun _ h => h.elim)⟩
  clear hne T1 s1 n2 M2 T2 n3 B3
  go_wp2
  obtain ⟨o', R1, R2⟩ := RR
  go_ret2
  exact ⟨_, o', rfl, R1, R2⟩

end Go.Proofs.Ytffmlffhiimmdaa
