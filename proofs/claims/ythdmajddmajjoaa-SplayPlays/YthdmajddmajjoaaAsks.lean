/- Calls that ask: Same, Rank, Sum. -/
import Derived.Test.YthdmajddmajjoaaFo
namespace Go.Proofs.Ythdmajddmajjoaa
open Go.ChangeShapes Go.WideShapes Go.ChangeAt Go.RowKit
set_option linter.unusedVariables false

theorem field_size (s c u l m f : Int) (w : World) : (Instr.field 75 (.agg #[.int .i64 s, .int .i64 c, .int .i64 u, .int .i64 l, .int .i64 m, .int .i64 f]) 0).run Try.prog w = .ok (.int .i64 s) w := by kernel_rfl
theorem field_agg (s c u l m f : Int) (w : World) : (Instr.field 75 (.agg #[.int .i64 s, .int .i64 c, .int .i64 u, .int .i64 l, .int .i64 m, .int .i64 f]) 1).run Try.prog w = .ok (.agg #[.int .i64 c, .int .i64 u, .int .i64 l, .int .i64 m, .int .i64 f]) w := by kernel_rfl
theorem field_flags (c u l m f : Int) (w : World) : (Instr.field 45 (.agg #[.int .i64 c, .int .i64 u, .int .i64 l, .int .i64 m, .int .i64 f]) 4).run Try.prog w = .ok (.int .i64 f) w := by kernel_rfl

theorem sumOutF (w : World) (o : Nat → Nat) (L p room n : Nat) (free : List Nat) (it : Nat → It) (S : Nat → List Nat) (x : Int) (F : Fo w o L p room n free it S) (hb : hasB n free x = false) :
    Calls Try.prog 12 #[.pointer (some ⟨p, 0, none⟩), .int .i64 x] w fun e w' => e = .returned (.tuple #[aggV Ag.zero, .int .i64 31]) ∧ Step (fun _ => False) w o w' o := by
  obtain ⟨pt, nd, T, F, H, e⟩ := F
  have hc := fun wx s => nodeOut wx o L p room n free pt nd x (F.quiet s) hb
  clear F H e
  go_enter Try.func12, Try.ntmps12
  go_wp2_with fail
  refine (hc _ (newB _ _ _)).mono ?_
  rintro e w1 ⟨rfl, rfl⟩
  go_wp2
  exact bodyPost_ret (v := .tuple #[aggV Ag.zero, .int .i64 31]) (by simp [results, Try.results12, go_sem, aggV, Ag.zero]) rfl ⟨rfl, newB _ _ _⟩

set_option maxRecDepth 100000 in
theorem sumInF (w : World) (o : Nat → Nat) (L p room n : Nat) (free : List Nat) (it : Nat → It) (S : Nat → List Nat) (a : Nat) (F : Fo w o L p room n free it S) (hl : Live n free a) :
    Calls Try.prog 12 #[.pointer (some ⟨p, 0, none⟩), .int .i64 a] w fun e w' => e = .returned (.tuple #[aggV (agg ((S a).map it)), .int .i64 0]) ∧ ∃ o', Fo w' o' L p room n free it S ∧ Step (FL L) w o w' o' := by
  obtain ⟨pt, nd, T, F, H, e⟩ := F
  obtain ⟨ga, hga⟩ : ∃ ga, ga = agg ((S a).map it) := ⟨_, rfl⟩
  rw [← hga]
  have HG : Hid (ga = agg ((S a).map it)) := hga
  clear hga
  have s0 := newStep (fun _ => False) w o (L + 5) (.cells #[.int .i64 0, .int .i64 0, .int .i64 0, .int .i64 0, .int .i64 0] 45)
  have B0 : Blk (w.alloc (.cells #[.int .i64 0, .int .i64 0, .int .i64 0, .int .i64 0, .int .i64 0] 45)) (newLab w o (L + 5)) (L + 5) w.heap.size (.cells #[.int .i64 0, .int .i64 0, .int .i64 0, .int .i64 0, .int .i64 0] 45 (0, 0)) := ⟨heap_alloc_new w _, newLab_new (Nat.le_refl _)⟩
  have F0 := F.quiet s0
  have hc := nodeIn _ _ L p room n free pt nd a F0 hl
  have hc2 := lift_any _ _ L p room n free pt nd T S a F0 H hl
  go_enter Try.func12, Try.ntmps12
  go_wp2_with fail
  refine hc.mono ?_
  rintro e w1 ⟨rfl, rfl⟩
  go_wp2_with fail
  refine hc2.mono ?_
  rintro e w2 ⟨rfl, nd2, T2, o2, F2, A2, S2⟩
  have nB : ¬ NL L (L + 5) := fun hx => by have := hx.1; omega
  have B2 := B0.step S2 nB
  obtain ⟨_, c3, c4, c5, ⟨c6, c7, c8, c9, c10, c11⟩, hf⟩ := (F2.node hl).cells12
  have e2 := A2.tr.ag a hl
  rw [A2.tr.itemsEq (A2.it' e) hl, A2.top hl] at e2
  rw [e2] at c7 c8 c9 c10 c11
  obtain ⟨b0, b1, b2, b3, b4, bf⟩ := B2.cells5
  have R1 := (s0.ff (L := L)).trans S2.nf
  have hne : pt a ≠ w.heap.size := fun e => by have h1 := (F2.node hl).2; rw [e, B2.2] at h1; have := hl.1; omega
  have hne2 := hne.symm
  have s5 := fun v0 v1 v2 v3 v4 => five_set (L + 5) w2 o2 w.heap.size v0 v1 v2 v3 v4 B2.2
  have R2 := fun v0 v1 v2 v3 v4 => Fo.mk (F2.scratch (s5 v0 v1 v2 v3 v4)) A2.tr (A2.it' e)
  rw [← HG.out] at c7 c8 c9 c10 c11
  clear hc hc2 s0 B0 F0 F H S2 F2 A2 B2 e2 nB
  go_wp2
  exact bodyPost_ret (v := .tuple #[aggV ga, .int .i64 0]) (by simp [results, Try.results12, go_sem, aggV, b0, b1, b2, b3, b4]) rfl ⟨rfl, _, R2 _ _ _ _ _, R1.trans (s5 _ _ _ _ _).five⟩

theorem rankOutF (w : World) (o : Nat → Nat) (L p room n : Nat) (free : List Nat) (it : Nat → It) (S : Nat → List Nat) (x : Int) (F : Fo w o L p room n free it S) (hb : hasB n free x = false) :
    Calls Try.prog 13 #[.pointer (some ⟨p, 0, none⟩), .int .i64 x] w fun e w' => e = .returned (.tuple #[.int .i64 0, .int .i64 31]) ∧ w' = w := by
  obtain ⟨pt, nd, T, F, H, e⟩ := F
  have hc := nodeOut w o L p room n free pt nd x F hb
  clear F H e
  go_enter Try.func13, Try.ntmps13
  go_wp2_with fail
  refine hc.mono ?_
  rintro e w1 ⟨rfl, rfl⟩
  go_wp2
  go_ret2
  exact ⟨rfl, rfl⟩

set_option maxRecDepth 100000 in
theorem rankInF (w : World) (o : Nat → Nat) (L p room n : Nat) (free : List Nat) (it : Nat → It) (S : Nat → List Nat) (a : Nat) (A B : List Nat) (F : Fo w o L p room n free it S) (hl : Live n free a) (hA : S a = A ++ a :: B) :
    Calls Try.prog 13 #[.pointer (some ⟨p, 0, none⟩), .int .i64 a] w fun e w' => e = .returned (.tuple #[.int .i64 A.length, .int .i64 0]) ∧ ∃ o', Fo w' o' L p room n free it S ∧ Step (FL L) w o w' o' := by
  obtain ⟨pt, nd, T, F, H, e⟩ := F
  have hc := nodeIn _ _ L p room n free pt nd a F hl
  have hc2 := lift_any _ _ L p room n free pt nd T S a F H hl
  go_enter Try.func13, Try.ntmps13
  go_wp2_with fail
  refine hc.mono ?_
  rintro e w1 ⟨rfl, rfl⟩
  go_wp2_with fail
  refine hc2.mono ?_
  rintro e w2 ⟨rfl, nd2, T2, o2, F2, A2, S2⟩
  obtain ⟨_, c3, c4, c5, _, hf⟩ := (F2.node hl).cells12
  have e1 := A2.tr.t a hl
  rw [A2.top hl, hA] at e1
  have hno : (A ++ a :: B).Nodup := by rw [← hA]; exact A2.tr.nodupSeq hl
  have e3 := (cut_unique hno e1).1
  have hsub := A2.tr.subOf (c := (nd2 a).l) (fun x => (A2.tr.l a hl x).1) nd2 (fun _ => rfl) (fun _ => rfl)
  have hc3 := whole_sub w2 w2 o2 L p room n free pt nd2 (nd2 a).l _ F2 (Step.refl _ _ _) hsub
  rw [← e3, List.length_map] at hc3
  obtain ⟨ga, hga⟩ : ∃ ga, ga = agg (A.map fun k => (nd2 k).it) := ⟨_, rfl⟩
  rw [← hga] at hc3
  unfold sumsV at hc3
  have R := fun wx s => Fo.mk (F2.quiet (w' := wx) (o' := o2) s) A2.tr (A2.it' e)
  have hfd := field_size A.length ga.count ga.sum ga.least ga.most ga.flags
  clear hc hc2 F H e1 hno e3 hsub A2 hga F2
  go_wp2_with fail
  refine hc3.mono ?_
  rintro e w3 ⟨rfl, S3⟩
  go_wp2
  go_ret2
  exact ⟨rfl, o2, R _ S3, S2.nf.trans S3.ff⟩

theorem sameOutA (w : World) (o : Nat → Nat) (L p room n : Nat) (free : List Nat) (it : Nat → It) (S : Nat → List Nat) (x y : Int) (F : Fo w o L p room n free it S) (hb : hasB n free x = false) :
    Calls Try.prog 27 #[.pointer (some ⟨p, 0, none⟩), .int .i64 x, .int .i64 y] w fun e w' => e = .returned (.tuple #[.bool false, .int .i64 31]) ∧ w' = w := by
  obtain ⟨pt, nd, T, F, H, e⟩ := F
  have hc := nodeOut w o L p room n free pt nd x F hb
  clear F H e
  go_enter Try.func27, Try.ntmps27
  go_wp2_with fail
  refine hc.mono ?_
  rintro e w1 ⟨rfl, rfl⟩
  go_wp2
  go_ret2
  exact ⟨rfl, rfl⟩
theorem sameOutB (w : World) (o : Nat → Nat) (L p room n : Nat) (free : List Nat) (it : Nat → It) (S : Nat → List Nat) (a : Nat) (y : Int) (F : Fo w o L p room n free it S) (ha : Live n free a) (hb : hasB n free y = false) :
    Calls Try.prog 27 #[.pointer (some ⟨p, 0, none⟩), .int .i64 a, .int .i64 y] w fun e w' => e = .returned (.tuple #[.bool false, .int .i64 31]) ∧ w' = w := by
  obtain ⟨pt, nd, T, F, H, e⟩ := F
  have hc0 := nodeIn w o L p room n free pt nd a F ha
  have hc := nodeOut w o L p room n free pt nd y F hb
  clear F H e
  go_enter Try.func27, Try.ntmps27
  go_wp2_with fail
  refine hc0.mono ?_
  rintro e w1 ⟨rfl, rfl⟩
  go_wp2_with fail
  refine hc.mono ?_
  rintro e w1 ⟨rfl, rfl⟩
  go_wp2
  go_ret2
  exact ⟨rfl, rfl⟩

set_option maxRecDepth 100000 in
theorem sameInF (w : World) (o : Nat → Nat) (L p room n : Nat) (free : List Nat) (it : Nat → It) (S : Nat → List Nat) (a b : Nat) (F : Fo w o L p room n free it S) (ha : Live n free a) (hb : Live n free b) :
    Calls Try.prog 27 #[.pointer (some ⟨p, 0, none⟩), .int .i64 a, .int .i64 b] w fun e w' => e = .returned (.tuple #[.bool (decide (S a = S b)), .int .i64 0]) ∧ ∃ o', Fo w' o' L p room n free it S ∧ Step (FL L) w o w' o' := by
  obtain ⟨pt, nd, T, F, H, e⟩ := F
  have hc0 := nodeIn w o L p room n free pt nd a F ha
  have hc1 := nodeIn w o L p room n free pt nd b F hb
  have hc2 := lift_any _ _ L p room n free pt nd T S b F H hb
  obtain ⟨q, hq⟩ : ∃ q, q = decide (S a = S b) := ⟨_, rfl⟩
  rw [← hq]
  have HQ : Hid (q = decide (S a = S b)) := hq
  clear hq
  go_enter Try.func27, Try.ntmps27
  go_wp2_with fail
  refine hc0.mono ?_
  rintro e w1 ⟨rfl, rfl⟩
  go_wp2_with fail
  refine hc1.mono ?_
  rintro e w1 ⟨rfl, rfl⟩
  go_wp2_with fail
  refine hc2.mono ?_
  rintro e w2 ⟨rfl, nd2, T2, o2, F2, A2, S2⟩
  have hc3 := lift_any _ _ L p room n free pt nd2 T2 S a F2 A2.tr ha
  clear hc0 hc1 hc2
  go_wp2_with fail
  refine hc3.mono ?_
  rintro e w3 ⟨rfl, nd3, T3, o3, F3, A3, S3⟩
  have hc4 := nodeIn w3 _ L p room n free pt nd3 b F3 hb
  obtain ⟨_, c3, c4, c5, _, hf⟩ := (F3.node hb).cells12
  have R := Fo.mk F3 A3.tr (fun k hk => (A3.it k).trans (A2.it' e k hk))
  have RS := S2.nf.trans S3.nf
  by_cases hab : a = b
  · subst hab
    have hq : q = true := by rw [HQ.out]; simp
    subst hq
    clear hc3 F H F2 A2 S2 F3 A3 S3
    go_wp2
    go_ret2
    exact ⟨rfl, o3, R, RS⟩
  · have hab' : ((a : Int) == (b : Int)) = false := by simp only [beq_eq_false_iff_ne, ne_eq]; omega
    by_cases hu : (nd3 b).up = 0
    · have hq : q = false := by
        rw [HQ.out]
        simp only [decide_eq_false_iff_not]
        intro hs
        exact hab (A3.tr.one_top ha hb A3.up hu hs)
      subst hq
      rw [hu] at c3
      clear hc3 F H F2 A2 S2 F3 A3 S3
      go_wp2_with fail
      refine hc4.mono ?_
      rintro e w4 ⟨rfl, rfl⟩
      go_wp2
      go_ret2
      exact ⟨rfl, o3, R, RS⟩
    · have hu' : (((nd3 b).up : Int) == 0) = false := by simp only [beq_eq_false_iff_ne, ne_eq]; omega
      have hu2 : (((nd3 b).up : Int) != 0) = true := by simp only [bne_iff_ne, ne_eq]; omega
      have hq : q = true := by
        rw [HQ.out]
        simp only [decide_eq_true_eq]
        by_cases hs : S a = S b
        · exact hs
        · exfalso
          have hm : b ∉ S a := fun hm => hs (A3.tr.mem a ha b hm).2.symm
          have := (A3.other b hm).1
          rw [this] at hu
          exact hu A2.up
      subst hq
      clear hc3 F H F2 A2 S2 F3 A3 S3
      go_wp2_with fail
      refine hc4.mono ?_
      rintro e w4 ⟨rfl, rfl⟩
      go_wp2
      go_ret2
      exact ⟨rfl, o3, R, RS⟩

end Go.Proofs.Ythdmajddmajjoaa
