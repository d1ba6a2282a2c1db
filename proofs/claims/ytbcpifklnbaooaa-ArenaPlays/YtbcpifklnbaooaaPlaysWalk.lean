/- The walk of the law ArenaPlays. -/
import Derived.Test.YtbcpifklnbaooaaLaw
import Derived.Test.YtbcpifklnbaooaaEndsInt
import Derived.Test.YtbcpifklnbaooaaEndsStr
import Derived.Test.YtbcpifklnbaooaaOpsBase
namespace Go.Proofs.Ytbcpifklnbaooaa
open Go.ChangeShapes Go.WideShapes Go.ChangeAt Go.RowKit
set_option linter.unusedVariables false

theorem SL.pos {S k : Nat} (h : SL S k) (hS : 0 < S) : Pos k := Nat.lt_of_lt_of_le hS h.1

/-- A new side. -/
theorem SideInt.new {w : World} {o : Nat → Nat} {pa px room : Nat} (hA : Ar 70 3 1 w o 2 pa room 0 [] []) (hR : Rf w o 6 px room 0 []) :
    SideXInt (w.alloc (.cells #[.pointer (some ⟨pa, 0, none⟩), .pointer (some ⟨px, 0, none⟩), .slice none 0 0, .slice none 0 0, .slice none 0 0] 38)) (newLab w o 1) 1 w.heap.size :=
  ⟨room, 0, [], [], [], [], [], [], pa, px, _, _, _, ⟨heap_alloc_new w _, newLab_new (Nat.le_refl _)⟩, hA.step (newStep (fun _ => False) w o 1 _) (fun _ _ => id), hR.step (newStep (fun _ => False) w o 1 _) (fun _ _ => id), Row.nil _ _ _ _ _, Kept.start, Row.nil _ _ _ _ _, Row.nil _ _ _ _ _, Lists.nil _ _ _⟩
theorem SideStr.new {w : World} {o : Nat → Nat} {pa px room : Nat} (hA : Ar 72 9 1 w o 102 pa room 0 [] []) (hR : Rf w o 106 px room 0 []) :
    SideXStr (w.alloc (.cells #[.pointer (some ⟨pa, 0, none⟩), .pointer (some ⟨px, 0, none⟩), .slice none 0 0, .slice none 0 0, .slice none 0 0] 42)) (newLab w o 101) 101 w.heap.size :=
  ⟨room, 0, [], [], [], [], [], [], pa, px, _, _, _, ⟨heap_alloc_new w _, newLab_new (Nat.le_refl _)⟩, hA.step (newStep (fun _ => False) w o 101 _) (fun _ _ => id), hR.step (newStep (fun _ => False) w o 101 _) (fun _ _ => id), Row.nil _ _ _ _ _, Kept.start, Row.nil _ _ _ _ _, Row.nil _ _ _ _ _, Lists.nil _ _ _⟩

theorem room_cases (c : Int) : (c < 0 ∨ 4096 < c) ∨ ∃ r : Nat, r ≤ 4096 ∧ c = r := by
  by_cases h : c < 0 ∨ 4096 < c
  · exact .inl h
  · exact .inr ⟨c.toNat, by omega, by omega⟩

set_option maxRecDepth 100000 in
set_option maxHeartbeats 4000000 in
theorem plays_none (c d : Int) (v : Value) (w : World) (hc : c < 0 ∨ 4096 < c) (hd : d < 0 ∨ 4096 < d) :
    Calls Try.prog 3 #[.int .i64 c, .int .i64 d, v] w fun e w' => e = .returned (.bool true) ∧ Below w.heap.size w w' := by
  go_enter Try.func3, Try.ntmps3
  go_wp2_with fail
  refine (awake_any w).mono ?_
  rintro e w1 ⟨rfl, hb1⟩
  go_wp2_with fail
  refine (newBadInt w1 c hc).mono ?_
  rintro e w2 ⟨rfl, rfl⟩
  go_wp2_with fail
  refine (newBadStr _ d hd).mono ?_
  rintro e w3 ⟨rfl, rfl⟩
  go_wp2_with fail
  refine (refNewBad _ c hc).mono ?_
  rintro e w4 ⟨rfl, rfl⟩
  go_wp2_with fail
  refine (refNewBad _ d hd).mono ?_
  rintro e w5 ⟨rfl, rfl⟩
  clear hc hd
  go_wp2
  go_ret
  exact ⟨rfl, hb1⟩

set_option maxRecDepth 100000 in
set_option maxHeartbeats 4000000 in
theorem plays_first (c : Int) (s : Nat) (v : Value) (w : World) (hc : c < 0 ∨ 4096 < c) (hs : s ≤ 4096) :
    Calls Try.prog 3 #[.int .i64 c, .int .i64 s, v] w fun e w' => e = .returned (.bool true) ∧ Below w.heap.size w w' := by
  go_enter Try.func3, Try.ntmps3
  go_wp2_with fail
  refine (awake_any w).mono ?_
  rintro e w1 ⟨rfl, hb1⟩
  have t1 : Step Pos w o0 w1 o0 := Step.ofBelow o0 hb1
  go_wp2_with fail
  refine (newBadInt w1 c hc).mono ?_
  rintro e w2 ⟨rfl, rfl⟩
  go_wp2_with fail
  refine (newStr _ o0 102 s hs).mono ?_
  rintro e w3 ⟨rfl, o3, a3, s3⟩
  have t3 := t1.trans (s3.mono fun _ h => h.elim)
  go_wp2_with fail
  refine (refNewBad _ c hc).mono ?_
  rintro e w4 ⟨rfl, rfl⟩
  go_wp2_with fail
  refine (refNew _ o3 106 s hs).mono ?_
  rintro e w5 ⟨q, rfl, o5, r5, s5⟩
  have t5 := (t3.trans (s5.mono fun _ h => h.elim)).old
  clear hc hs a3 s3 t3 t1 hb1 r5 s5
  go_wp2
  go_ret
  exact ⟨rfl, t5⟩

set_option maxRecDepth 100000 in
set_option maxHeartbeats 4000000 in
theorem plays_second (r : Nat) (d : Int) (v : Value) (w : World) (hr : r ≤ 4096) (hd : d < 0 ∨ 4096 < d) :
    Calls Try.prog 3 #[.int .i64 r, .int .i64 d, v] w fun e w' => e = .returned (.bool true) ∧ Below w.heap.size w w' := by
  go_enter Try.func3, Try.ntmps3
  go_wp2_with fail
  refine (awake_any w).mono ?_
  rintro e w1 ⟨rfl, hb1⟩
  have t1 : Step Pos w o0 w1 o0 := Step.ofBelow o0 hb1
  go_wp2_with fail
  refine (newInt _ o0 2 r hr).mono ?_
  rintro e w2 ⟨rfl, o2, a2, s2⟩
  have t2 := t1.trans (s2.mono fun _ h => h.elim)
  go_wp2_with fail
  refine (newBadStr _ d hd).mono ?_
  rintro e w3 ⟨rfl, rfl⟩
  go_wp2_with fail
  refine (refNew _ o2 6 r hr).mono ?_
  rintro e w4 ⟨q, rfl, o4, r4, s4⟩
  have t4 := (t2.trans (s4.mono fun _ h => h.elim)).old
  go_wp2_with fail
  refine (refNewBad _ d hd).mono ?_
  rintro e w5 ⟨rfl, rfl⟩
  clear hr hd a2 s2 t2 t1 hb1 r4 s4
  go_wp2
  go_ret
  exact ⟨rfl, t4⟩

set_option maxRecDepth 100000 in
set_option maxHeartbeats 8000000 in
theorem plays_both (r s : Nat) (ao : Option Addr) (len cap : Nat) (f : Nat → OpAt) (w : World) (hr : r ≤ 4096) (hs : s ≤ 4096) (hlen : len * 32 ≤ 140737488351232) (ha : ArgOps w ao len f) :
    Calls Try.prog 3 #[.int .i64 r, .int .i64 s, .slice ao len cap] w fun e w' => e = .returned (.bool true) ∧ Below w.heap.size w w' := by
  go_enter Try.func3, Try.ntmps3
  go_wp2_with fail
  refine (awake_any w).mono ?_
  rintro e w1 ⟨rfl, hb1⟩
  have t1 : Step Pos w o0 w1 o0 := Step.ofBelow o0 hb1
  go_wp2_with fail
  refine (newInt _ o0 2 r hr).mono ?_
  rintro e w2 ⟨rfl, o2, a2, s2⟩
  have t2 := t1.trans (s2.mono fun _ h => h.elim)
  obtain ⟨pa, hpa⟩ : ∃ p, p = w1.heap.size := ⟨_, rfl⟩
  rw [← hpa] at a2 ⊢
  clear hpa t1 s2 hb1
  go_wp2_with fail
  refine (newStr _ o2 102 s hs).mono ?_
  rintro e w3 ⟨rfl, o3, b3, s3⟩
  have t3 := t2.trans (s3.mono fun _ h => h.elim)
  have a3 := a2.step s3 (fun _ _ => id)
  obtain ⟨pb, hpb⟩ : ∃ p, p = w2.heap.size := ⟨_, rfl⟩
  rw [← hpb] at b3 ⊢
  clear hpb t2 s3 a2
  go_wp2_with fail
  refine (refNew _ o3 6 r hr).mono ?_
  rintro e w4 ⟨qx, rfl, o4, x4, s4⟩
  have t4 := t3.trans (s4.mono fun _ h => h.elim)
  have a4 := a3.step s4 (fun _ _ => id)
  have b4 := b3.step s4 (fun _ _ => id)
  clear t3 s4 a3 b3
  go_wp2_with fail
  refine (refNew _ o4 106 s hs).mono ?_
  rintro e w5 ⟨qy, rfl, o5, y5, s5⟩
  have t5 := t4.trans (s5.mono fun _ h => h.elim)
  have a5 := a4.step s5 (fun _ _ => id)
  have b5 := b4.step s5 (fun _ _ => id)
  have x5 := x4.step s5 (fun _ _ => id)
  clear t4 s5 a4 b4 x4
  have F6 := SideInt.new a5 x5
  have n6 := newStep (fun _ => False) w5 o5 1 (.cells #[.pointer (some ⟨pa, 0, none⟩), .pointer (some ⟨qx, 0, none⟩), .slice none 0 0, .slice none 0 0, .slice none 0 0] 38)
  have b6 := b5.step n6 (fun _ _ => id)
  have y6 := y5.step n6 (fun _ _ => id)
  have t6 := t5.trans (n6.mono fun _ h => h.elim)
  have G7 := SideStr.new b6 y6
  have n7 := newStep (fun _ => False) (w5.alloc (.cells #[.pointer (some ⟨pa, 0, none⟩), .pointer (some ⟨qx, 0, none⟩), .slice none 0 0, .slice none 0 0, .slice none 0 0] 38)) (newLab w5 o5 1) 101 (.cells #[.pointer (some ⟨pb, 0, none⟩), .pointer (some ⟨qy, 0, none⟩), .slice none 0 0, .slice none 0 0, .slice none 0 0] 42)
  have F7 := F6.step n7 (fun _ _ => id)
  have t7 := t6.trans (n7.mono fun _ h => h.elim)
  have hsz : (w5.alloc (.cells #[.pointer (some ⟨pa, 0, none⟩), .pointer (some ⟨qx, 0, none⟩), .slice none 0 0, .slice none 0 0, .slice none 0 0] 38)).heap.size = w5.heap.size + 1 := by simp
  rw [hsz] at G7
  clear F6 n6 b6 y6 t6 n7 a5 b5 x5 y5 t5 hsz
  go_wp2
  go_loopw [18] (fun i wr => ∃ k : Nat, k ≤ len ∧ i = .int .i64 k ∧ ∃ o', SideXInt wr o' 1 w5.heap.size ∧ SideXStr wr o' 101 (w5.heap.size + 1) ∧ Step Pos w o0 wr o') (fun i _ => len - (intOf i).toNat)
  case atStart => exact ⟨0, by omega, by go_num, _, F7, G7, t7⟩
  case round =>
    clear F7 G7 t7
    obtain ⟨k, hk, rfl, o8, F8, G8, t8⟩ := hrel
    by_cases hlt : k < len
    · obtain ⟨b, off, rfl, hb, m0, m1, m2, m3, hy1, hy2⟩ := ha.below t8.old k hlt
      by_cases hob : (f k).b = true
      · rw [hob] at m3
        obtain ⟨kd, hkd⟩ : ∃ kd, kd = (f k).kd := ⟨_, rfl⟩
        obtain ⟨x, hx⟩ : ∃ x, x = (f k).x := ⟨_, rfl⟩
        obtain ⟨y, hy⟩ : ∃ y, y = (f k).y := ⟨_, rfl⟩
        rw [← hkd] at m0
        rw [← hx] at m1
        rw [← hy] at m2 hy1 hy2
        have cells : ∀ (wx : World) (ox : Nat → Nat), Step Pos w o0 wx ox → wx.cell? ⟨b, off + k * 4, none⟩ = some (.int .i64 kd) ∧ wx.cell? ⟨b, off + k * 4 + 1, none⟩ = some (.int .i64 x) ∧ wx.cell? ⟨b, off + k * 4 + 2, none⟩ = some (.int .i64 y) ∧ wx.cell? ⟨b, off + k * 4 + 3, none⟩ = some (.bool true) := fun wx ox hst => by
          obtain ⟨b', off', hv, _, n0, n1, n2, n3, _⟩ := ha.below hst.old k hlt
          simp only [Option.some.injEq, Addr.mk.injEq, and_true] at hv
          obtain ⟨rfl, rfl⟩ := hv
          exact ⟨by rw [hkd]; exact n0, by rw [hx]; exact n1, by rw [hy]; exact n2, by rw [← hob]; exact n3⟩
        have t8d := t8.drew
        have G8d := G8.step ((Step.refl (fun _ => False) wr o8).drew) (fun _ _ => id)
        have F8d := F8.step ((Step.refl (fun _ => False) wr o8).drew) (fun _ _ => id)
        have HC : Hid (∀ (wx : World) (ox : Nat → Nat), Step Pos w o0 wx ox → wx.cell? ⟨b, off + k * 4, none⟩ = some (.int .i64 kd) ∧ wx.cell? ⟨b, off + k * 4 + 1, none⟩ = some (.int .i64 x) ∧ wx.cell? ⟨b, off + k * 4 + 2, none⟩ = some (.int .i64 y) ∧ wx.cell? ⟨b, off + k * 4 + 3, none⟩ = some (.bool true)) := cells
        clear cells hkd hx hy hob
        go_wp2_with fail
        go_region_held (fun wx => wx.cell? ⟨b, off + k * 4, none⟩ = some (.int .i64 kd) ∧ wx.cell? ⟨b, off + k * 4 + 1, none⟩ = some (.int .i64 x) ∧ wx.cell? ⟨b, off + k * 4 + 2, none⟩ = some (.int .i64 y) ∧ wx.cell? ⟨b, off + k * 4 + 3, none⟩ = some (.bool true)) (go_keep) ((first | (go_at_call 11; refine (text_any _ o8 y hy1 hy2).mono ?_; rintro e wA ⟨sv, rfl, sA⟩; have tA := t8d.trans (sA.mono fun _ h => h.elim); obtain ⟨y0, y1, y2, y3⟩ := HC.out _ _ tA) | (go_at_call 10; refine (stepStr wA o8 101 (w5.heap.size + 1) kd x y true sv (G8d.step sA (fun _ _ => id))).mono ?_; rintro e wB ⟨rfl, oB, GB, sB⟩; have tB := tA.trans (sB.mono fun x hx => SL.pos hx (by omega)); obtain ⟨z0, z1, z2, z3⟩ := HC.out _ _ tB)))
        all_goals
          have FB := (F8d.step sA (fun _ _ => id)).step sB (by unfold SD SL; omega)
          clear HC F8 F8d G8 G8d t8 t8d sA sB tA m0 m1 m2 m3 y0 y1 y2 y3 z0 z1 z2 z3
          go_wp2
          go_roundw
          case rel => (try ((repeat apply Exists.intro); refine ⟨?_, rfl⟩)); exact ⟨k + 1, by omega, by go_num, oB, FB, GB, tB⟩
          case measure => simp [intOf]; omega
      · have hob' : (f k).b = false := by simpa using hob
        rw [hob'] at m3
        obtain ⟨kd, hkd⟩ : ∃ kd, kd = (f k).kd := ⟨_, rfl⟩
        obtain ⟨x, hx⟩ : ∃ x, x = (f k).x := ⟨_, rfl⟩
        obtain ⟨y, hy⟩ : ∃ y, y = (f k).y := ⟨_, rfl⟩
        rw [← hkd] at m0
        rw [← hx] at m1
        rw [← hy] at m2 hy1 hy2
        have HC : Hid (∀ (wx : World) (ox : Nat → Nat), Step Pos w o0 wx ox → wx.cell? ⟨b, off + k * 4, none⟩ = some (.int .i64 kd) ∧ wx.cell? ⟨b, off + k * 4 + 1, none⟩ = some (.int .i64 x) ∧ wx.cell? ⟨b, off + k * 4 + 2, none⟩ = some (.int .i64 y) ∧ wx.cell? ⟨b, off + k * 4 + 3, none⟩ = some (.bool false)) := fun wx ox hst => by
          obtain ⟨b', off', hv, _, n0, n1, n2, n3, _⟩ := ha.below hst.old k hlt
          simp only [Option.some.injEq, Addr.mk.injEq, and_true] at hv
          obtain ⟨rfl, rfl⟩ := hv
          exact ⟨by rw [hkd]; exact n0, by rw [hx]; exact n1, by rw [hy]; exact n2, by rw [← hob']; exact n3⟩
        have t8d := t8.drew
        have G8d := G8.step ((Step.refl (fun _ => False) wr o8).drew) (fun _ _ => id)
        have F8d := F8.step ((Step.refl (fun _ => False) wr o8).drew) (fun _ _ => id)
        clear hkd hx hy hob hob'
        go_wp2_with fail
        go_region_held (fun wx => wx.cell? ⟨b, off + k * 4, none⟩ = some (.int .i64 kd) ∧ wx.cell? ⟨b, off + k * 4 + 1, none⟩ = some (.int .i64 x) ∧ wx.cell? ⟨b, off + k * 4 + 2, none⟩ = some (.int .i64 y) ∧ wx.cell? ⟨b, off + k * 4 + 3, none⟩ = some (.bool false)) (go_keep) ((go_at_call 12; refine (stepInt _ o8 1 w5.heap.size kd x y false y F8d).mono ?_; rintro e wB ⟨rfl, oB, FB, sB⟩; have tB := t8d.trans (sB.mono fun x hx => SL.pos hx (by omega)); obtain ⟨z0, z1, z2, z3⟩ := HC.out _ _ tB))
        all_goals
          have GB := G8d.step sB (by unfold SD SL; omega)
          clear HC F8 F8d G8 G8d t8 t8d sB m0 m1 m2 m3 z0 z1 z2 z3
          go_wp2
          go_roundw
          case rel => (try ((repeat apply Exists.intro); refine ⟨?_, rfl⟩)); exact ⟨k + 1, by omega, by go_num, oB, FB, GB, tB⟩
          case measure => simp [intOf]; omega
    · obtain rfl : k = len := by omega
      clear ha hlt hk
      go_wp2_with fail
      refine (endsInt _ o8 1 w5.heap.size F8).mono ?_
      rintro e w9 ⟨rfl, o9, s9⟩
      have G9 := G8.step s9 (by unfold SD SL; omega)
      have t9 := t8.trans (s9.mono fun x hx => SL.pos hx (by omega))
      clear F8 G8 t8 s9
      go_wp2_with fail
      refine (endsStr _ o9 101 (w5.heap.size + 1) G9).mono ?_
      rintro e w10 ⟨rfl, o10, s10⟩
      have t10 := (t9.trans (s10.mono fun x hx => SL.pos hx (by omega))).old
      clear G9 t9 s10
      go_wp2
      go_ret
      exact ⟨ret_bool (by simp), t10⟩

theorem plays_walk (c d : Int) (ao : Option Addr) (len cap : Nat) (f : Nat → OpAt) (w : World) (hlen : len * 32 ≤ 140737488351232) (ha : ArgOps w ao len f) :
    Calls Try.prog 3 #[.int .i64 c, .int .i64 d, .slice ao len cap] w fun e w' => e = .returned (.bool true) ∧ Below w.heap.size w w' := by
  rcases room_cases c with hc | ⟨r, hr, rfl⟩
  · rcases room_cases d with hd | ⟨s, hs, rfl⟩
    · exact plays_none c d _ w hc hd
    · exact plays_first c s _ w hc hs
  · rcases room_cases d with hd | ⟨s, hs, rfl⟩
    · exact plays_second r d _ w hr hd
    · exact plays_both r s ao len cap f w hr hs hlen ha

end Go.Proofs.Ytbcpifklnbaooaa
