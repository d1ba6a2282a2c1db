/- A tree is turned about till a node is at its top: the closure, the loop that it is handed to, the call. -/
import Derived.Test.YthdmajddmajjoaaTurnWalk
import Derived.Deep.LoopGhost
namespace Go.Proofs.Ythdmajddmajjoaa
open Go.ChangeShapes Go.WideShapes Go.ChangeAt Go.RowKit
set_option linter.unusedVariables false

/-- The same sequences and items; nothing but h's own sequence is touched. -/
structure Alike (live : Nat → Prop) (N : Nat) (nd : Nat → Nd) (T S : Nat → List Nat) (h : Nat) (nd' : Nat → Nd) (T' : Nat → List Nat) : Prop where
  tr : Tr live N nd' T' S
  it : ∀ k, (nd' k).it = (nd k).it
  other : ∀ k, k ∉ S h → nd' k = nd k ∧ T' k = T k
theorem Alike.refl {live : Nat → Prop} {N : Nat} {nd : Nat → Nd} {T S : Nat → List Nat} (H : Tr live N nd T S) (h : Nat) : Alike live N nd T S h nd T := ⟨H, fun _ => rfl, fun _ _ => ⟨rfl, rfl⟩⟩
theorem Alike.trans {live : Nat → Prop} {N : Nat} {nd nd' nd'' : Nat → Nd} {T T' T'' S : Nat → List Nat} {h : Nat} (a : Alike live N nd T S h nd' T') (b : Alike live N nd' T' S h nd'' T'') : Alike live N nd T S h nd'' T'' :=
  ⟨b.tr, fun k => (b.it k).trans (a.it k), fun k hk => ⟨(b.other k hk).1.trans (a.other k hk).1, (b.other k hk).2.trans (a.other k hk).2⟩⟩
theorem TurnOut.alike {live : Nat → Prop} {N : Nat} {nd nd' : Nat → Nd} {T T' S : Nat → List Nat} {h u k : Nat} (a : TurnOut live N nd T S h u nd' T') (e : S h = S k) : Alike live N nd T S k nd' T' := ⟨a.tr, a.it, fun j hj => a.other j (by rw [e]; exact hj)⟩

set_option maxRecDepth 100000 in
set_option maxHeartbeats 1000000 in
theorem clo_any (w : World) (o : Nat → Nat) (L p room n : Nat) (free : List Nat) (pt : Nat → Nat) (nd : Nat → Nd) (T S : Nat → List Nat) (a u bx : Nat) (F : Fm w o L p room n free pt nd) (H : Tr (Live n free) n nd T S) (hl : Live n free a) (hu : (nd a).up = u) (hu0 : u ≠ 0)
    (hB : Blk w o (L + 5) bx (.cells #[.pointer (some ⟨p, 0, none⟩)] 24 (0, 0))) :
    Calls Try.prog 55 #[.int .i64 a, .int .i64 u, .pointer (some ⟨bx, 0, none⟩)] w fun e w' => e = .returned (.int .i64 a) ∧ ∃ nd' T', Fm w' o L p room n free pt nd' ∧ (Alike (Live n free) n nd T S a nd' T' ∧ (T a).length < (T' a).length) ∧ Step (NL L) w o w' o := by
  obtain ⟨lu, hSu, hch⟩ := H.u a hl (by rw [hu]; exact hu0)
  rw [hu] at lu hSu hch
  have h0 := H.ne0 hl
  have hlt := H.up_lt hl (by rw [hu]; exact hu0)
  rw [hu] at hlt
  have hc1 := nodeIn w o L p room n free pt nd u F lu
  obtain ⟨b0, hb⟩ := hB.cells1
  obtain ⟨_, d3, d4, d5, _, hd⟩ := (F.node lu).cells12
  have nB : ¬ NL L (L + 5) := fun hx => by have := hx.1; omega
  by_cases o0 : (nd u).up = 0
  · rw [o0] at d3
    have hc2 := turn_any w o L p room n free pt nd T S a u F H hl hu hu0
    go_enter Try.func55, Try.ntmps55
    go_wp2_with fail
    refine hc1.mono ?_
    rintro e w1 ⟨rfl, rfl⟩
    go_wp2_with fail
    refine hc2.mono ?_
    rintro e w2 ⟨rfl, nd2, T2, F2, O2, S2⟩
    have hlt2 : (T a).length < (T2 a).length := by rw [O2.top]; exact hlt
    have A2 := O2.alike (k := a) rfl
    clear hc1 hc2 d3 d4 d5 O2 hlt
    go_wp2
    go_ret
    exact ⟨rfl, nd2, T2, F2, ⟨A2, hlt2⟩, S2⟩
  · obtain ⟨lo, hSo, hco⟩ := H.u u lu o0
    have hlt1 := H.up_lt lu o0
    have o1 : (((nd u).up : Int) == 0) = false := by simp only [beq_eq_false_iff_ne, ne_eq]; omega
    have hs : ∀ (wx : World) (Fx : Fm wx o L p room n free pt nd) (a b : Nat), (b = u ∨ b = (nd u).up) → Calls Try.prog 56 #[.pointer (some ⟨p, 0, none⟩), .int .i64 a, .int .i64 b] wx fun e w' => e = .returned (.int .i64 (if (nd b).l = a then 0 else 1)) ∧ w' = wx := fun wx Fx a b hb => sideOf_any wx o L p room n free pt nd a b Fx (by rcases hb with rfl | rfl <;> assumption)
    have HS : Hid _ := hs
    clear hs
    by_cases same : ((nd u).l = a ↔ (nd (nd u).up).l = u)
    · have hc2 := fun wx Fx => turn_any wx o L p room n free pt nd T S u (nd u).up Fx H lu rfl o0
      have hc3 : ∀ wx nd1 T1, Fm wx o L p room n free pt nd1 → TurnOut (Live n free) n nd T S u (nd u).up nd1 T1 → Calls Try.prog 57 #[.pointer (some ⟨p, 0, none⟩), .int .i64 a] wx fun e w' => e = .returned (.tuple #[]) ∧ ∃ nd' T', Fm w' o L p room n free pt nd' ∧ (Alike (Live n free) n nd T S a nd' T' ∧ (T a).length < (T' a).length) ∧ Step (NL L) wx o w' o := by
        intro wx nd1 T1 F1 O1
        have hu1 : (nd1 a).up = u := by
          by_cases e : (nd u).l = a
          · have e2 := O1.keepl (same.1 e)
            rw [e] at e2
            have := (O1.tr.l u lu (by rw [e2]; exact h0)).2
            rwa [e2] at this
          · have e2 := O1.keepr (fun x => e (same.2 x))
            rw [hch.resolve_left e] at e2
            have := (O1.tr.r u lu (by rw [e2]; exact h0)).2
            rwa [e2] at this
        refine (turn_any wx o L p room n free pt nd1 T1 S a u F1 O1.tr hl hu1 hu0).mono ?_
        rintro e w' ⟨rfl, nd2, T2, F2, O2, S2⟩
        refine ⟨rfl, nd2, T2, F2, ⟨(O1.alike hSu).trans (O2.alike rfl), ?_⟩, S2⟩
        rw [O2.top, O1.top]; omega
      have HC3 : Hid _ := hc3
      have HC2 : Hid _ := hc2
      clear hc3 hc2
      by_cases e : (nd u).l = a
      · have e2 := same.1 e
        clear same hch hco
        go_enter Try.func55, Try.ntmps55
        go_wp2_with fail
        refine hc1.mono ?_
        rintro e w1 ⟨rfl, rfl⟩
        go_wp2_with fail
        go_quiet ((go_at_call 56; exact Calls.quiet_of_same (HS.out _ (F.drewN _) _ _ (by first | exact .inl rfl | exact .inr rfl))))
        go_wp2_with fail
        refine (HC2.out _ (F.drewN _)).mono ?_
        rintro e w2 ⟨rfl, nd2, T2, F2, O2, S2⟩
        have S2 : Step (NL L) w1 o w2 o := ((Step.refl (NL L) w1 o).drewN _).trans S2
        have b2 := (hB.step S2 nB).cells1
        obtain ⟨b20, hb2⟩ := b2
        go_wp2_with fail
        refine (HC3.out _ _ _ F2 O2).mono ?_
        rintro e w3 ⟨rfl, nd3, T3, F3, R3, S3⟩
        have SZ : Step (NL L) w1 o w3 o := S2.trans S3
        clear HC2 HC3 HS hc1 d3 d4 d5 O2 S2 S3 F2 b20 hb2
        go_wp2
        go_ret
        exact ⟨rfl, nd3, T3, F3, R3, SZ⟩
      · have e2 : ¬ (nd (nd u).up).l = u := fun x => e (same.2 x)
        clear same hch hco
        go_enter Try.func55, Try.ntmps55
        go_wp2_with fail
        refine hc1.mono ?_
        rintro e w1 ⟨rfl, rfl⟩
        go_wp2_with fail
        go_quiet ((go_at_call 56; exact Calls.quiet_of_same (HS.out _ (F.drewN _) _ _ (by first | exact .inl rfl | exact .inr rfl))))
        go_wp2_with fail
        refine (HC2.out _ (F.drewN _)).mono ?_
        rintro e w2 ⟨rfl, nd2, T2, F2, O2, S2⟩
        have S2 : Step (NL L) w1 o w2 o := ((Step.refl (NL L) w1 o).drewN _).trans S2
        have b2 := (hB.step S2 nB).cells1
        obtain ⟨b20, hb2⟩ := b2
        go_wp2_with fail
        refine (HC3.out _ _ _ F2 O2).mono ?_
        rintro e w3 ⟨rfl, nd3, T3, F3, R3, S3⟩
        have SZ : Step (NL L) w1 o w3 o := S2.trans S3
        clear HC2 HC3 HS hc1 d3 d4 d5 O2 S2 S3 F2 b20 hb2
        go_wp2
        go_ret
        exact ⟨rfl, nd3, T3, F3, R3, SZ⟩
    · have hc2 := fun wx Fx => turn_any wx o L p room n free pt nd T S a u Fx H hl hu hu0
      have hc3 : ∀ wx nd1 T1, Fm wx o L p room n free pt nd1 → TurnOut (Live n free) n nd T S a u nd1 T1 → Calls Try.prog 57 #[.pointer (some ⟨p, 0, none⟩), .int .i64 a] wx fun e w' => e = .returned (.tuple #[]) ∧ ∃ nd' T', Fm w' o L p room n free pt nd' ∧ (Alike (Live n free) n nd T S a nd' T' ∧ (T a).length < (T' a).length) ∧ Step (NL L) wx o w' o := by
        intro wx nd1 T1 F1 O1
        have hu1 := O1.up
        refine (turn_any wx o L p room n free pt nd1 T1 S a (nd u).up F1 O1.tr hl hu1 o0).mono ?_
        rintro e w' ⟨rfl, nd2, T2, F2, O2, S2⟩
        refine ⟨rfl, nd2, T2, F2, ⟨(O1.alike rfl).trans (O2.alike rfl), ?_⟩, S2⟩
        have := O1.tr.up_lt hl (by rw [hu1]; exact o0)
        rw [O1.top, hu1] at this
        rw [O2.top]; omega
      have HC3 : Hid _ := hc3
      have HC2 : Hid _ := hc2
      clear hc3 hc2
      by_cases e : (nd u).l = a
      · have e2 : ¬ (nd (nd u).up).l = u := fun x => same ⟨fun _ => x, fun _ => e⟩
        clear same hch hco
        go_enter Try.func55, Try.ntmps55
        go_wp2_with fail
        refine hc1.mono ?_
        rintro e w1 ⟨rfl, rfl⟩
        go_wp2_with fail
        go_quiet ((go_at_call 56; exact Calls.quiet_of_same (HS.out _ (F.drewN _) _ _ (by first | exact .inl rfl | exact .inr rfl))))
        go_wp2_with fail
        refine (HC2.out _ (F.drewN _)).mono ?_
        rintro e w2 ⟨rfl, nd2, T2, F2, O2, S2⟩
        have S2 : Step (NL L) w1 o w2 o := ((Step.refl (NL L) w1 o).drewN _).trans S2
        have b2 := (hB.step S2 nB).cells1
        obtain ⟨b20, hb2⟩ := b2
        go_wp2_with fail
        refine (HC3.out _ _ _ F2 O2).mono ?_
        rintro e w3 ⟨rfl, nd3, T3, F3, R3, S3⟩
        have SZ : Step (NL L) w1 o w3 o := S2.trans S3
        clear HC2 HC3 HS hc1 d3 d4 d5 O2 S2 S3 F2 b20 hb2
        go_wp2
        go_ret
        exact ⟨rfl, nd3, T3, F3, R3, SZ⟩
      · have e2 : (nd (nd u).up).l = u := by
          by_cases x : (nd (nd u).up).l = u
          · exact x
          · exact absurd ⟨fun y => absurd y e, fun y => absurd y x⟩ same
        clear same hch hco
        go_enter Try.func55, Try.ntmps55
        go_wp2_with fail
        refine hc1.mono ?_
        rintro e w1 ⟨rfl, rfl⟩
        go_wp2_with fail
        go_quiet ((go_at_call 56; exact Calls.quiet_of_same (HS.out _ (F.drewN _) _ _ (by first | exact .inl rfl | exact .inr rfl))))
        go_wp2_with fail
        refine (HC2.out _ (F.drewN _)).mono ?_
        rintro e w2 ⟨rfl, nd2, T2, F2, O2, S2⟩
        have S2 : Step (NL L) w1 o w2 o := ((Step.refl (NL L) w1 o).drewN _).trans S2
        have b2 := (hB.step S2 nB).cells1
        obtain ⟨b20, hb2⟩ := b2
        go_wp2_with fail
        refine (HC3.out _ _ _ F2 O2).mono ?_
        rintro e w3 ⟨rfl, nd3, T3, F3, R3, S3⟩
        have SZ : Step (NL L) w1 o w3 o := S2.trans S3
        clear HC2 HC3 HS hc1 d3 d4 d5 O2 S2 S3 F2 b20 hb2
        go_wp2
        go_ret
        exact ⟨rfl, nd3, T3, F3, R3, SZ⟩

/-- What lifting h leaves: h at the top. -/
structure Lifted (live : Nat → Prop) (N : Nat) (nd : Nat → Nd) (T S : Nat → List Nat) (h : Nat) (nd' : Nat → Nd) (T' : Nat → List Nat) : Prop extends Alike live N nd T S h nd' T' where
  up : (nd' h).up = 0
theorem Lifted.top {live : Nat → Prop} {N : Nat} {nd nd' : Nat → Nd} {T T' S : Nat → List Nat} {h : Nat} (a : Lifted live N nd T S h nd' T') (hl : live h) : T' h = S h := a.tr.root h hl a.up

set_option maxRecDepth 100000 in
set_option maxHeartbeats 1000000 in
theorem climb_any (w : World) (o : Nat → Nat) (L p room n : Nat) (free : List Nat) (pt : Nat → Nat) (nd : Nat → Nd) (T S : Nat → List Nat) (a bx : Nat) (F : Fm w o L p room n free pt nd) (H : Tr (Live n free) n nd T S) (hl : Live n free a)
    (hB : Blk w o (L + 5) bx (.cells #[.pointer (some ⟨p, 0, none⟩)] 24 (0, 0))) :
    Calls Try.prog 54 #[.pointer (some ⟨p, 0, none⟩), .int .i64 a, .func (.func 55) #[] #[.pointer (some ⟨bx, 0, none⟩)]] w fun e w' => e = .returned (.tuple #[]) ∧ ∃ nd' T', Fm w' o L p room n free pt nd' ∧ Lifted (Live n free) n nd T S a nd' T' ∧ Step (NL L) w o w' o := by
  have hc1 := nodeIn w o L p room n free pt nd a F hl
  obtain ⟨_, d3, d4, d5, _, hd⟩ := (F.node hl).cells12
  have nB : ¬ NL L (L + 5) := fun hx => by have := hx.1; omega
  have HN := H.lenN hl
  go_enter Try.func54, Try.ntmps54
  go_wp2_with fail
  refine hc1.mono ?_
  rintro e w1 ⟨rfl, rfl⟩
  clear hc1
  go_wp2
  go_loopg [1, 6] (n - (T a).length) (fun g va vu wr => va = .int .i64 a ∧ ∃ nd' T', vu = .int .i64 (nd' a).up ∧ (T' a).length + g = n ∧ Fm wr o L p room n free pt nd' ∧ Alike (Live n free) n nd T S a nd' T' ∧ Step (NL L) w1 o wr o)
  case atStart => exact ⟨rfl, nd, T, rfl, by omega, F, Alike.refl H a, Step.refl _ _ _⟩
  case round =>
    obtain ⟨rfl, nd1, T1, rfl, hg, F1, A1, S1⟩ := hrel
    have B1 := hB.step S1 nB
    by_cases u0 : (nd1 a).up = 0
    · have R : Lifted (Live n free) n nd T S a nd1 T1 := ⟨A1, u0⟩
      clear F H d3 d4 d5 hd hB A1
      go_wp2
      go_end0
      exact ⟨rfl, nd1, T1, F1, R, S1⟩
    · have u1 : (((nd1 a).up : Int) == 0) = false := by simp only [beq_eq_false_iff_ne, ne_eq]; omega
      have hc2 := clo_any wr o L p room n free pt nd1 T1 S a (nd1 a).up bx F1 A1.tr hl rfl u0 B1
      clear F H d3 d4 d5 hd hB
      go_wp2_with fail
      refine hc2.mono ?_
      rintro e w3 ⟨rfl, nd3, T3, F3, ⟨A3, hlt⟩, S3⟩
      have hc3 := nodeIn w3 o L p room n free pt nd3 a F3 hl
      obtain ⟨_, d3, d4, d5, _, hd⟩ := (F3.node hl).cells12
      have HN3 := A3.tr.lenN hl
      have A4 := A1.trans A3
      have S4 := S1.trans S3
      clear hc2 F1 A1 S1 B1 A3 S3 u1
      go_wp2_with fail
      refine hc3.mono ?_
      rintro e w4 ⟨rfl, rfl⟩
      clear hc3
      go_wp2
      go_roundg (n - (T3 a).length)
      case measure => omega
      case rel => exact ⟨rfl, nd3, T3, rfl, by omega, F3, A4, S4⟩

set_option maxRecDepth 100000 in
theorem lift_any (w : World) (o : Nat → Nat) (L p room n : Nat) (free : List Nat) (pt : Nat → Nat) (nd : Nat → Nd) (T S : Nat → List Nat) (a : Nat) (F : Fm w o L p room n free pt nd) (H : Tr (Live n free) n nd T S) (hl : Live n free a) :
    Calls Try.prog 40 #[.pointer (some ⟨p, 0, none⟩), .int .i64 a] w fun e w' => e = .returned (.pointer (some ⟨pt a, 0, none⟩)) ∧ ∃ nd' T' o', Fm w' o' L p room n free pt nd' ∧ Lifted (Live n free) n nd T S a nd' T' ∧ Step (NL L) w o w' o' := by
  have s0 := newStep (fun _ => False) w o (L + 5) (.cells #[.pointer (some ⟨p, 0, none⟩)] 24)
  have F0 := F.quiet s0
  have B0 : Blk (w.alloc (.cells #[.pointer (some ⟨p, 0, none⟩)] 24)) (newLab w o (L + 5)) (L + 5) w.heap.size (.cells #[.pointer (some ⟨p, 0, none⟩)] 24 (0, 0)) := ⟨heap_alloc_new w _, newLab_new (Nat.le_refl _)⟩
  have hc1 := climb_any _ _ L p room n free pt nd T S a w.heap.size F0 H hl B0
  have nB : ¬ NL L (L + 5) := fun hx => by have := hx.1; omega
  go_enter Try.func40, Try.ntmps40
  go_wp2_with fail
  refine hc1.mono ?_
  rintro e w1 ⟨rfl, nd1, T1, F1, A1, S1⟩
  obtain ⟨b0, hb⟩ := (B0.step S1 nB).cells1
  have hc2 := nodeIn w1 _ L p room n free pt nd1 a F1 hl
  have S2 := (s0.mono (J := NL L) fun _ h => h.elim).trans S1
  clear hc1 B0 F0 s0 S1
  go_wp2_with fail
  refine hc2.mono ?_
  rintro e w2 ⟨rfl, rfl⟩
  go_wp2
  go_ret
  exact ⟨rfl, nd1, T1, _, F1, A1, S2⟩

end Go.Proofs.Ythdmajddmajjoaa
