/- The walk of the law VsetFamilies, its end with it. -/
import Derived.Test.YtmpkhbblakfglaaDoorFamWalk9
import Derived.Test.YtmpkhbblakfglaaDoorFEnds9
namespace Go.Proofs.YtmpkhbblakfglaaDoor
open Go.ChangeShapes Go.WideShapes Go.ChangeAt Go.RowKit Go.Maps
set_option linter.unusedVariables false
set_option linter.unusedSimpArgs false

set_option maxRecDepth 100000 in
set_option maxHeartbeats 8000000 in
theorem families_of (hends : EndsOk) (w : World) (ao : Option Addr) (len cap : Nat) (q : Nat → DeV) (ha : ArgDe9 w ao len q) (hlen : len * 64 ≤ 140737488351232) (hT : Tz w) (hW : Wd w) :
    Calls Tryd.prog 3 #[.slice ao len cap] w fun e w' => e = .returned (.bool true) ∧ Below w.heap.size w w' := by
  have HE : Hid EndsOk := hends
  clear hends
  go_enter Tryd.func3, Tryd.ntmps3
  go_wp2_with fail
  refine (awake_c w hT hW).mono ?_
  rintro e w1 ⟨rfl, hb1⟩
  have T1 : TzL w1 (fun _ => 0) := ⟨hT.below hb1, rfl⟩
  have W1 : WdL w1 (fun _ => 0) := ⟨hW.below hb1, rfl⟩
  have s1 : Step (fun k => 0 < k) w (fun _ => 0) w1 (fun _ => 0) := Step.ofBelow _ hb1
  clear hT hW hb1
  go_wp2_with fail
  refine (new9 w1 (fun _ => 0) 1001000).mono ?_
  rintro e w2 ⟨pf, o2, rfl, F2, s2⟩
  have T2 := T1.step s2 id
  have W2 := W1.step s2 id
  have t2 := s1.trans (s2.mono fun _ h => h.elim)
  clear T1 W1 s1 s2
  go_wp2_with fail
  refine (new9 w2 o2 2001000).mono ?_
  rintro e w3 ⟨pg, o3, rfl, G3, s3⟩
  have F3 := F2.step s3 id id
  have T3 := T2.step s3 id
  have W3 := W2.step s3 id
  have t3 := t2.trans (s3.mono fun _ h => h.elim)
  clear T2 W2 t2 s3 F2
  have X1 := SX.new (B := 1000000) (.inl rfl) F3 T3 W3
  have u1 := (newStep (fun _ => False) w3 o3 (1000000 + 1) (.cells #[.slice none 0 0, .slice none 0 0] 31)).trans (newStep (fun _ => False) (w3.alloc (.cells #[.slice none 0 0, .slice none 0 0] 31)) (newLab w3 o3 (1000000 + 1)) 1000000 (.cells #[.pointer (some ⟨pf, 0, none⟩), .pointer (some ⟨w3.heap.size, 0, none⟩), .slice none 0 0, .slice none 0 0] 34))
  have G4 := G3.step u1 id id
  have T4 := T3.step u1 id
  have W4 := W3.step u1 id
  have t4 := t3.trans (u1.mono fun _ h => h.elim)
  clear F3 G3 T3 W3 t3 u1
  go_upto_region 7 with fail
  generalize newLab (w3.alloc (.cells #[.slice none 0 0, .slice none 0 0] 31)) (newLab w3 o3 (1000000 + 1)) 1000000 = o4 at X1 G4 T4 W4 t4
  generalize (w3.alloc (.cells #[.slice none 0 0, .slice none 0 0] 31)).alloc (.cells #[.pointer (some ⟨pf, 0, none⟩), .pointer (some ⟨w3.heap.size, 0, none⟩), .slice none 0 0, .slice none 0 0] 34) = w4 at X1 G4 T4 W4 t4 ⊢
  generalize w3.heap.size + 1 = p1 at X1 ⊢
  have X2 := SX.new (B := 2000000) (.inr rfl) G4 T4 W4
  have u2 := (newStep (fun _ => False) w4 o4 (2000000 + 1) (.cells #[.slice none 0 0, .slice none 0 0] 31)).trans (newStep (fun _ => False) (w4.alloc (.cells #[.slice none 0 0, .slice none 0 0] 31)) (newLab w4 o4 (2000000 + 1)) 2000000 (.cells #[.pointer (some ⟨pg, 0, none⟩), .pointer (some ⟨w4.heap.size, 0, none⟩), .slice none 0 0, .slice none 0 0] 34))
  have X1b := X1.step u2 (fun _ _ => id) id
  have t5 := t4.trans (u2.mono fun _ h => h.elim)
  clear X1 G4 T4 W4 t4 u2
  go_upto_region 8 with fail
  generalize newLab (w4.alloc (.cells #[.slice none 0 0, .slice none 0 0] 31)) (newLab w4 o4 (2000000 + 1)) 2000000 = o5 at X1b X2 t5
  generalize (w4.alloc (.cells #[.slice none 0 0, .slice none 0 0] 31)).alloc (.cells #[.pointer (some ⟨pg, 0, none⟩), .pointer (some ⟨w4.heap.size, 0, none⟩), .slice none 0 0, .slice none 0 0] 34) = w5 at X1b X2 t5 ⊢
  generalize w4.heap.size + 1 = p2 at X2 ⊢
  have TW : Two w (fun _ => 0) p1 p2 w5 (clean o5) := ⟨X1b.lab (.inl rfl) (clean_rl o5 w5), X2.lab (.inr rfl) (clean_rl o5 w5), clean_cl o5, t5.cleaned (fun k => by show ¬ SP 0; unfold SP; omega)⟩
  generalize clean o5 = o6 at TW
  clear X1b X2 t5
  go_wp2_with fail
  go_loopw [8] (fun i wr => ∃ (k : Nat) (o' : Nat → Nat), k ≤ len ∧ i = .int .i64 k ∧ Two w (fun _ => 0) p1 p2 wr o') (fun i _ => len - (intOf i).toNat)
  case atStart => exact ⟨0, o6, by omega, by go_num, TW⟩
  case round =>
    clear TW
    obtain ⟨k, o7, hk, rfl, T7⟩ := hrel
    by_cases hlt : k < len
    · obtain ⟨bl, off, rfl, hbl, hq⟩ := ha k hlt
      have hq3 := hq.below hbl (oldF T7.s)
      have hlab : ∀ ad, (q k).ao = some ad → 0 < (q k).len → o7 ad.block = 0 := fun ad e h0 => by
        obtain ⟨b', off', e', h2, _⟩ := hq.i 0 h0
        rw [e] at e'
        simp only [Option.some.injEq] at e'
        subst e'
        exact T7.s.lab b' h2
      have hl := step_any wr o7 1000000 p1 (.inl rfl) T7.c T7.a (q k).kd (q k).n (q k).s hq.sz (q k).ao (q k).len (q k).cap (q k).ot (q k).f hq3.i hlab hq.l
      have hr := step_any wr o7 2000000 p2 (.inr rfl) T7.c T7.b (q k).kd (q k).n (q k).s hq.sz (q k).ao (q k).len (q k).cap (q k).ot (q k).f hq3.i hlab hq.l
      have m0 := hq3.c0
      have m1 := hq3.c1
      have m2 := hq3.c2
      have m3 := hq3.c3
      have m4 := hq3.c4
      have hkI : (k : Int) < (len : Int) := by omega
      clear hq hq3 hlab ha
      generalize (q k).kd = kd at *
      generalize (q k).n = n at *
      generalize (q k).s = s at *
      generalize (q k).ao = ao4 at *
      generalize (q k).len = len4 at *
      generalize (q k).cap = cap4 at *
      cases hot : (q k).ot with
      | true =>
        rw [hot] at m4 hr
        clear hl hot
        go_wp2_with fail
        refine hr.mono ?_
        rintro e w8 hS
        obtain ⟨rfl, o8, T8⟩ := T7.right hS
        clear hr hS T7 m0 m1 m2 m3 m4
        go_wp2
        go_roundw
        case rel => (try ((repeat apply Exists.intro); refine ⟨?_, rfl⟩)); exact ⟨k + 1, o8, by omega, by go_num, T8⟩
        case measure => simp [intOf]; omega
      | false =>
        rw [hot] at m4 hl
        clear hr hot
        go_wp2_with fail
        refine hl.mono ?_
        rintro e w8 hS
        obtain ⟨rfl, o8, T8⟩ := T7.left hS
        clear hl hS T7 m0 m1 m2 m3 m4
        go_wp2
        go_roundw
        case rel => (try ((repeat apply Exists.intro); refine ⟨?_, rfl⟩)); exact ⟨k + 1, o8, by omega, by go_num, T8⟩
        case measure => simp [intOf]; omega
    · obtain rfl : k = len := by omega
      clear ha hlt hk
      have he := HE.out wr o7 1000000 p1 (.inl rfl) T7.c T7.a
      go_wp2_with fail
      refine he.mono ?_
      rintro e w8 ⟨rfl, o8, s8⟩
      have b8 := (T7.b.step s8 (fun k hk => by unfold SB at *; omega) (by unfold SB; omega)).lab (.inr rfl) (clean_rl o8 w8)
      have t8 := T7.s.trans ((s8.cleaned T7.c).mono fun k hk => (by unfold SB at hk; omega : 0 < k))
      have he2 := HE.out w8 (clean o8) 2000000 p2 (.inr rfl) (clean_cl o8) b8
      clear he T7 s8 b8
      go_wp2_with fail
      refine he2.mono ?_
      rintro e w9 ⟨rfl, o9, s9⟩
      have t9 := oldF (t8.trans (s9.mono fun k hk => (by unfold SB at hk; omega : 0 < k)))
      clear he2 t8 s9 HE
      go_wp2
      go_ret
      exact ⟨rfl, t9⟩
end Go.Proofs.YtmpkhbblakfglaaDoor
namespace Go.Proofs.YtmpkhbblakfglaaDoor
open Go.ChangeShapes Go.WideShapes Go.ChangeAt Go.RowKit Go.Maps
theorem families_walk (w : World) (ao : Option Addr) (len cap : Nat) (q : Nat → DeV) (ha : ArgDe9 w ao len q) (hlen : len * 64 ≤ 140737488351232) (hT : Tz w) (hW : Wd w) :
    Calls Tryd.prog 3 #[.slice ao len cap] w fun e w' => e = .returned (.bool true) ∧ Below w.heap.size w w' := families_of ends_c w ao len cap q ha hlen hT hW
end Go.Proofs.YtmpkhbblakfglaaDoor
