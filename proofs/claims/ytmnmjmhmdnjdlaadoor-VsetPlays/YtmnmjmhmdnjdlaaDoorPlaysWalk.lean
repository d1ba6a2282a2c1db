/- The walk of the law VsetPlays. -/
import Derived.Test.YtmnmjmhmdnjdlaaDoorMakeX
import Derived.Test.YtmnmjmhmdnjdlaaDoorMake2
import Derived.Test.YtmnmjmhmdnjdlaaDoorMake3
import Derived.Test.YtmnmjmhmdnjdlaaDoorMake4
import Derived.Test.YtmnmjmhmdnjdlaaDoorMake5
import Derived.Test.YtmnmjmhmdnjdlaaDoorMake6
import Derived.Test.YtmnmjmhmdnjdlaaDoorAsk7
import Derived.Test.YtmnmjmhmdnjdlaaDoorAsk8
import Derived.Test.YtmnmjmhmdnjdlaaDoorAsk9
import Derived.Test.YtmnmjmhmdnjdlaaDoorAsk10
import Derived.Test.YtmnmjmhmdnjdlaaDoorAsk11
import Derived.Test.YtmnmjmhmdnjdlaaDoorAskX
import Derived.Test.YtmnmjmhmdnjdlaaDoorEnds9
import Derived.Test.YtmnmjmhmdnjdlaaDoorOpsArg9
namespace Go.Proofs.YtmnmjmhmdnjdlaaDoor
open Go.ChangeShapes Go.WideShapes Go.ChangeAt Go.RowKit Go.Maps
set_option linter.unusedVariables false
set_option linter.unusedSimpArgs false

/-- An empty book. -/
def zb : List Value := List.replicate 4 (.int .u64 0) ++ (List.replicate 256 (.bool false) ++ List.replicate 2 (.slice none 0 0))
theorem built_book : Tryd.prog.built 35 [] = some zb.toArray := by kernel_rfl
theorem zb_s {i : Nat} (h : i < 4) : zb[i]? = some (.int .u64 0) := by
  unfold zb
  rw [List.getElem?_append_left (by simpa using h), List.getElem?_replicate, if_pos h]
theorem zb_x {j : Nat} (h1 : 4 ≤ j) (h2 : j < 260) : zb[j]? = some (.bool false) := by
  unfold zb
  rw [List.getElem?_append_right (by simpa using h1), List.length_replicate, List.getElem?_append_left (by rw [List.length_replicate]; omega), List.getElem?_replicate, if_pos (by omega)]
theorem zb_v {j : Nat} (h1 : 260 ≤ j) (h2 : j < 262) : zb[j]? = some (.slice none 0 0) := by
  unfold zb
  rw [List.getElem?_append_right (by rw [List.length_replicate]; omega), List.length_replicate, List.getElem?_append_right (by rw [List.length_replicate]; omega), List.length_replicate, List.getElem?_replicate, if_pos (by omega)]
theorem Bk.new (w : World) : Bk (w.alloc (.cells zb.toArray 35)) w.heap.size (fun _ => 0) (fun _ => 0) (.slice none 0 0) (.slice none 0 0) := by
  have hb : (w.alloc (.cells zb.toArray 35)).heap[w.heap.size]? = some (.cells zb.toArray 35 (0, 0)) := heap_alloc_new w _
  have hc : ∀ j, (w.alloc (.cells zb.toArray 35)).cell? ⟨w.heap.size, j, none⟩ = zb[j]? := fun j => by
    rw [cell_of_row _ w.heap.size _ _ _ (0, 0) hb]; simp
  refine ⟨fun i hi => ?_, fun i hi j v hv => ?_, ?_, ?_, fun j => frozen_of_row _ _ j _ _ hb⟩
  · rw [hc, zb_s hi]; rfl
  · have hj : j < 64 := by have := (List.getElem?_eq_some_iff.1 hv).1; rwa [b64_len] at this
    rw [b64_get 0 hj, Nat.zero_testBit] at hv
    rw [hc, zb_x (by omega) (by omega)]
    exact hv
  · rw [hc, zb_v (by omega) (by omega)]
  · rw [hc, zb_v (by omega) (by omega)]
theorem BX.new {w : World} {o : Nat → Nat} (hT : TzL w o) : BX (w.alloc (.cells zb.toArray 35)) (newLab w o 1) w.heap.size :=
  ⟨fun _ => 0, none, 0, none, 0, [], [], [], 0, Bk.new w, newLab_new (Nat.le_refl _), fun _ _ => (by decide : 0 < top64), Row.nil _ _ _ _ _, Row.nil _ _ _ _ _, Lists.nil _ _, rfl, hT.step (newStep (fun _ => False) w o 1 _) id⟩
theorem BX.of1 {w : World} {o : Nat → Nat} {p : Nat} {ava : Option Addr} {cva : Nat} {avw : Option Addr} {cvw : Nat} {als wls : List Value} {ls : List (List Nat)} {N : Nat} (hop : o p = 1) (hp : p < w.heap.size) (h3 : Row w o 2 37 1 (.slice ava N cva) N als) (h4 : Row w o 3 37 1 (.slice avw N cvw) N wls) (h5 : Lists w o als wls ls) (h6 : ls.length = N) (h7 : TzL w o) {e : Ending} {w' : World} (h : MkOut1 w o p (.slice ava N cva) (.slice avw N cvw) e w') : e = .returned (.bool true) ∧ ∃ o', BX w' o' p ∧ Step (fun k => 0 < k) w o w' o' := by
  obtain ⟨S', o', rfl, k1, k2, s⟩ := h
  exact ⟨rfl, o', ⟨S', ava, cva, avw, cvw, als, wls, ls, N, k1, (s.lab p hp).trans hop, k2, h3.step s (by omega), h4.step s (by omega), h5.step s (by omega), h6, h7.step s (by omega)⟩, s.mono fun k hk => (by omega : 0 < k)⟩
theorem makes_all (w : World) (o : Nat → Nat) (p : Nat) (h : BX w o p) (kd b c n : Int) (hb1 : -9223372036854775808 ≤ b) (hb2 : b ≤ 9223372036854775807) (hc1 : -9223372036854775808 ≤ c) (hc2 : c ≤ 9223372036854775807) (ao : Option Addr) (len cap : Nat) (f : Nat → Int) (hI : Ints w ao len f) (hlab : ∀ ad, ao = some ad → 0 < len → o ad.block = 0) (hlen : len * 8 ≤ 140737488351232) :
    Calls Tryd.prog 5 #[.pointer (some ⟨p, 0, none⟩), .agg #[.int .i64 kd, .int .i64 b, .int .i64 c, .int .i64 n, .slice ao len cap]] w fun e w' => e = .returned (.bool true) ∧ ∃ o', BX w' o' p ∧ Step (fun k => 0 < k) w o w' o' := by
  obtain ⟨S, ava, cva, avw, cvw, als, wls, ls, N, h1, h2, hS, h3, h4, h5, h6, h7⟩ := h
  by_cases k1 : kd = 1
  · subst k1; exact (makes_1 w o p S _ _ h1 h2 hS b c n hb1 hb2 hc1 hc2 ao len cap f hI hlab hlen).mono fun e w' hm => BX.of1 h2 h1.lt h3 h4 h5 h6 h7 hm
  · by_cases k2 : kd = 2
    · subst k2; exact (makes_2 w o p S _ _ h1 h2 hS b c n hb1 hb2 hc1 hc2 ao len cap).mono fun e w' hm => BX.of1 h2 h1.lt h3 h4 h5 h6 h7 hm.one
    · by_cases k3 : kd = 3
      · subst k3; exact (makes_3 w o p S _ _ h1 h2 hS b c n hb1 hb2 hc1 hc2 ao len cap).mono fun e w' hm => BX.of1 h2 h1.lt h3 h4 h5 h6 h7 hm.one
      · by_cases k4 : kd = 4
        · subst k4; exact (makes_4 w o p S _ _ h1 h2 hS b c n hb1 hb2 hc1 hc2 ao len cap).mono fun e w' hm => BX.of1 h2 h1.lt h3 h4 h5 h6 h7 hm.one
        · by_cases k5 : kd = 5
          · subst k5; exact (makes_5 w o p S _ _ h1 h2 hS b c n hb1 hb2 hc1 hc2 ao len cap).mono fun e w' hm => BX.of1 h2 h1.lt h3 h4 h5 h6 h7 hm.one
          · by_cases k6 : kd = 6
            · subst k6; exact (makes_6 w o p S _ _ h1 h2 hS b c n hb1 hb2 hc1 hc2 ao len cap).mono fun e w' hm => BX.of1 h2 h1.lt h3 h4 h5 h6 h7 hm.one
            · exact (makes_x w o p S _ _ h1 hS kd b c n k1 k2 k3 k4 k5 k6 hb1 hb2 hc1 hc2 ao len cap).mono fun e w' hm => BX.of1 h2 h1.lt h3 h4 h5 h6 h7 hm.one
theorem BX.of99 {w : World} {o : Nat → Nat} {p : Nat} {S : Nat → Nat} {ava : Option Addr} {cva : Nat} {avw : Option Addr} {cvw : Nat} {als wls : List Value} {ls : List (List Nat)} {N : Nat} (h1 : Bk w p S S (.slice ava N cva) (.slice avw N cvw)) (hop : o p = 1) (hS : ∀ i, i < 4 → S i < top64) (h3 : Row w o 2 37 1 (.slice ava N cva) N als) (h4 : Row w o 3 37 1 (.slice avw N cvw) N wls) (h5 : Lists w o als wls ls) (h6 : ls.length = N) (h7 : TzL w o) {e : Ending} {w' : World} (h : e = .returned (.bool true) ∧ ∃ o', Step (fun k => k = 99) w o w' o') : e = .returned (.bool true) ∧ ∃ o', BX w' o' p ∧ Step (fun k => 0 < k) w o w' o' := by
  obtain ⟨rfl, o', s⟩ := h
  exact ⟨rfl, o', ⟨S, ava, cva, avw, cvw, als, wls, ls, N, h1.step s (by rw [hop]; omega), (h1.lab s).trans hop, hS, h3.step s (by omega), h4.step s (by omega), h5.step s (by omega), h6, h7.step s (by omega)⟩, s.mono fun k hk => (by omega : 0 < k)⟩
theorem asks_all (w : World) (o : Nat → Nat) (p : Nat) (h : BX w o p) (kd b c n : Int) (hb1 : -9223372036854775808 ≤ b) (hb2 : b ≤ 9223372036854775807) (hc1 : -9223372036854775808 ≤ c) (hc2 : c ≤ 9223372036854775807) (hn1 : -9223372036854775808 ≤ n) (hn2 : n ≤ 9223372036854775807) (ao : Option Addr) (len cap : Nat) :
    Calls Tryd.prog 6 #[.pointer (some ⟨p, 0, none⟩), .agg #[.int .i64 kd, .int .i64 b, .int .i64 c, .int .i64 n, .slice ao len cap]] w fun e w' => e = .returned (.bool true) ∧ ∃ o', BX w' o' p ∧ Step (fun k => 0 < k) w o w' o' := by
  obtain ⟨S, ava, cva, avw, cvw, als, wls, ls, N, h1, h2, hS, h3, h4, h5, h6, h7⟩ := h
  by_cases k7 : kd = 7
  · subst k7
    by_cases hn : 0 ≤ n ∧ n < 64
    · exact (asks_7y w o p S _ _ h1 hS h7 b c n hb1 hb2 hc1 hc2 hn1 hn2 ao len cap n.toNat (by omega) (by omega)).mono fun e w' hm => BX.of99 h1 h2 hS h3 h4 h5 h6 h7 hm
    · exact (asks_7n w o p S _ _ h1 hS h7 b c n hb1 hb2 hc1 hc2 hn1 hn2 ao len cap hn).mono fun e w' hm => BX.of99 h1 h2 hS h3 h4 h5 h6 h7 hm
  · by_cases k8 : kd = 8
    · subst k8; exact (asks_8 w o p S _ _ h1 hS h7 b c n hb1 hb2 hc1 hc2 hn1 hn2 ao len cap h2).mono fun e w' hm => BX.of99 h1 h2 hS h3 h4 h5 h6 h7 hm
    · by_cases k9 : kd = 9
      · subst k9; exact (asks_9 w o p S _ _ h1 hS h7 b c n hb1 hb2 hc1 hc2 hn1 hn2 ao len cap).mono fun e w' hm => BX.of99 h1 h2 hS h3 h4 h5 h6 h7 hm
      · by_cases k10 : kd = 10
        · subst k10
          by_cases hN : N < 30
          · exact asks_10n w o p S ava cva avw cvw als wls ls N h1 h2 hS h3 h4 h5 h6 h7 hN b c n hb1 hb2 hc1 hc2 ao len cap
          · exact asks_10o w o p S ava cva avw cvw als wls ls N h1 h2 hS h3 h4 h5 h6 h7 hN b c n hb1 hb2 hc1 hc2 ao len cap
        · by_cases k11 : kd = 11
          · subst k11; exact (asks_11 w o p S _ _ h1 hS h7 b c n hb1 hb2 hc1 hc2 hn1 hn2 ao len cap).mono fun e w' hm => BX.of99 h1 h2 hS h3 h4 h5 h6 h7 hm
          · exact (asks_x w o p S _ _ h1 hS h7 b c n hb1 hb2 hc1 hc2 hn1 hn2 ao len cap kd k7 k8 k9 k10 k11).mono fun e w' hm => BX.of99 h1 h2 hS h3 h4 h5 h6 h7 hm
theorem old9 {w w' : World} {o' : Nat → Nat} (s : Step (fun k => 0 < k) w (fun _ => 0) w' o') : Below w.heap.size w w' := s.below (fun k _ => by simp)
set_option maxRecDepth 100000 in
set_option maxHeartbeats 8000000 in
theorem plays_walk (w : World) (ao : Option Addr) (len cap : Nat) (q : Nat → OpV) (ha : ArgOp9 w ao len q) (hlen : len * 56 ≤ 140737488351232) (hT : Tz w) (hW : Wd w) :
    Calls Tryd.prog 3 #[.slice ao len cap] w fun e w' => e = .returned (.bool true) ∧ Below w.heap.size w w' := by
  go_enter Tryd.func3, Tryd.ntmps3
  go_wp2_with fail
  refine (awake_c w hT hW).mono ?_
  rintro e w1 ⟨rfl, hb1⟩
  have T1 : TzL w1 (fun _ => 0) := ⟨hT.below hb1, rfl⟩
  have s1 : Step (fun k => 0 < k) w (fun _ => 0) w1 (fun _ => 0) := Step.ofBelow _ hb1
  have X2 := BX.new T1
  have s2 := s1.trans ((newStep (fun _ => False) w1 (fun _ => 0) 1 (.cells zb.toArray 35)).mono fun _ h => h.elim)
  clear hT hW hb1 T1 s1
  go_upto_region 2 with fail
  refine wp_region_lit ?_
  refine wpList_buildTo rfl 35 #[] rfl (some 10) rfl zb.toArray (by simpa using built_book) ?_
  refine Go.Great.wpList_boxTo rfl 35 _ rfl (some 11) rfl w1.heap.size rfl zb.toArray (by simp [Act.put, Act.eval, Value.cells]) ?_
  simp only [Act.put, List.setIfInBounds_toArray, List.set_cons_zero, List.set_cons_succ]
  generalize w1.alloc (.cells zb.toArray 35) = w2 at X2 s2 ⊢
  generalize w1.heap.size = p at X2 s2 ⊢
  generalize newLab w1 (fun _ => 0) 1 = o2 at X2 s2
  go_wp2_with fail
  go_loopw [5] (fun i wr => ∃ k : Nat, k ≤ len ∧ i = .int .i64 k ∧ ∃ o', BX wr o' p ∧ Step (fun k => 0 < k) w (fun _ => 0) wr o') (fun i _ => len - (intOf i).toNat)
  case atStart => exact ⟨0, by omega, by go_num, o2, X2, s2⟩
  case round =>
    clear X2 s2
    obtain ⟨k, hk, rfl, o3, X3, s3⟩ := hrel
    by_cases hlt : k < len
    · obtain ⟨bl, off, rfl, hbl, hq⟩ := ha k hlt
      have HQ : Hid (∀ (wx : World) (ox : Nat → Nat), Step (fun k => 0 < k) w (fun _ => 0) wx ox → OpOk wx (q k) bl (off + k * 5)) := fun wx ox st => hq.below hbl (old9 st)
      have hq3 := HQ.out _ _ s3
      have hlab : ∀ ad, (q k).ao = some ad → 0 < (q k).len → o3 ad.block = 0 := fun ad e h0 => by
        obtain ⟨b', off', e', h2, _⟩ := hq.i 0 h0
        rw [e] at e'
        simp only [Option.some.injEq] at e'
        subst e'
        exact s3.lab b' h2
      have hmk := makes_all _ o3 p X3 (q k).kd (q k).b (q k).c (q k).n hq.b1 hq.b2 hq.d1 hq.d2 (q k).ao (q k).len (q k).cap (q k).f hq3.i hlab hq.l
      have has := fun wx ox (h : BX wx ox p) => asks_all wx ox p h (q k).kd (q k).b (q k).c (q k).n hq.b1 hq.b2 hq.d1 hq.d2 hq.n1 hq.n2 (q k).ao (q k).len (q k).cap
      obtain ⟨m0, m1, m2, m3, m4⟩ : _ ∧ _ ∧ _ ∧ _ ∧ _ := ⟨hq3.c0, hq3.c1, hq3.c2, hq3.c3, hq3.c4⟩
      have HC : Hid (∀ (wx : World) (ox : Nat → Nat), Step (fun k => 0 < k) w (fun _ => 0) wx ox → wx.cell? ⟨bl, off + k * 5, none⟩ = some (.int .i64 (q k).kd) ∧ wx.cell? ⟨bl, off + k * 5 + 1, none⟩ = some (.int .i64 (q k).b) ∧ wx.cell? ⟨bl, off + k * 5 + 2, none⟩ = some (.int .i64 (q k).c) ∧ wx.cell? ⟨bl, off + k * 5 + 3, none⟩ = some (.int .i64 (q k).n) ∧ wx.cell? ⟨bl, off + k * 5 + 4, none⟩ = some (.slice (q k).ao (q k).len (q k).cap)) := fun wx ox st => by
        have h := HQ.out wx ox st
        exact ⟨h.c0, h.c1, h.c2, h.c3, h.c4⟩
      have hkI : (k : Int) < (len : Int) := by omega
      clear HQ hq hq3 hlab X3 ha
      generalize (q k).kd = kd at *
      generalize (q k).b = b at *
      generalize (q k).c = c at *
      generalize (q k).n = n at *
      generalize (q k).ao = ao4 at *
      generalize (q k).len = len4 at *
      generalize (q k).cap = cap4 at *
      go_wp2_with fail
      refine hmk.mono ?_
      rintro e w4 ⟨rfl, o4, X4, t4⟩
      have s4 := s3.trans t4
      obtain ⟨x0, x1, x2, x3, x4⟩ := HC.out _ _ s4
      have hak := has _ _ X4
      clear hmk m0 m1 m2 m3 m4 s3 t4 has X4
      go_wp2_with fail
      refine hak.mono ?_
      rintro e w5 ⟨rfl, o5, X5, t5⟩
      have s5 := s4.trans t5
      clear hak x0 x1 x2 x3 x4 s4 t5 HC
      go_wp2
      go_roundw
      case rel => (try ((repeat apply Exists.intro); refine ⟨?_, rfl⟩)); exact ⟨k + 1, by omega, by go_num, o5, X5, s5⟩
      case measure => simp [intOf]; omega
    · obtain rfl : k = len := by omega
      clear ha hlt hk
      go_wp2_with fail
      refine (ends9 _ o3 p X3).mono ?_
      rintro e w9 ⟨rfl, o9, s9⟩
      have t9 := old9 (s3.trans s9)
      clear X3 s3 s9
      go_wp2
      go_ret
      exact ⟨rfl, t9⟩
end Go.Proofs.YtmnmjmhmdnjdlaaDoor
