/- Flagged. -/
import Derived.Test.YthdmajddmajjoaaAsks
namespace Go.Proofs.Ythdmajddmajjoaa
open Go.ChangeShapes Go.WideShapes Go.ChangeAt Go.RowKit
set_option linter.unusedVariables false

theorem one_flags (x : It) : x.one.flags = x.f := by unfold It.one; split <;> rfl
theorem agg_flags (f : Nat) : ∀ (xs : List It), (agg xs).flags &&& f = 0 ↔ ∀ x ∈ xs, x.f &&& f = 0
  | [] => by simp [agg, Ag.zero]
  | x :: xs => by
    rw [agg, both_flags, one_flags, Nat.and_or_distrib_right, Nat.or_eq_zero_iff, agg_flags f xs]
    simp

theorem flagOutF (w : World) (o : Nat → Nat) (L p room n : Nat) (free : List Nat) (it : Nat → It) (S : Nat → List Nat) (x f : Int) (F : Fo w o L p room n free it S) (hb : hasB n free x = false) :
    Calls Try.prog 14 #[.pointer (some ⟨p, 0, none⟩), .int .i64 x, .int .i64 f] w fun e w' => e = .returned (.tuple #[.int .i64 0, .int .i64 31]) ∧ w' = w := by
  obtain ⟨pt, nd, T, F, H, e⟩ := F
  have hc := nodeOut w o L p room n free pt nd x F hb
  clear F H e
  go_enter Try.func14, Try.ntmps14
  go_wp2_with fail
  refine hc.mono ?_
  rintro e w1 ⟨rfl, rfl⟩
  go_wp2
  go_ret2
  exact ⟨rfl, rfl⟩
theorem flagBadF (w : World) (o : Nat → Nat) (L p room n : Nat) (free : List Nat) (it : Nat → It) (S : Nat → List Nat) (a : Nat) (f : Int) (F : Fo w o L p room n free it S) (hl : Live n free a) (hf : f < 0 ∨ 255 < f) :
    Calls Try.prog 14 #[.pointer (some ⟨p, 0, none⟩), .int .i64 a, .int .i64 f] w fun e w' => e = .returned (.tuple #[.int .i64 0, .int .i64 1]) ∧ w' = w := by
  obtain ⟨pt, nd, T, F, H, e⟩ := F
  have hc := nodeIn w o L p room n free pt nd a F hl
  clear F H e
  rcases hf with hf | hf
  · go_enter Try.func14, Try.ntmps14
    go_wp2_with fail
    refine hc.mono ?_
    rintro e w1 ⟨rfl, rfl⟩
    go_wp2
    go_ret2
    exact ⟨rfl, rfl⟩
  · have hf0 : ¬ f < 0 := by omega
    go_enter Try.func14, Try.ntmps14
    go_wp2_with fail
    refine hc.mono ?_
    rintro e w1 ⟨rfl, rfl⟩
    go_wp2
    go_ret2
    exact ⟨rfl, rfl⟩

set_option maxRecDepth 100000 in
theorem flagNoneF (w : World) (o : Nat → Nat) (L p room n : Nat) (free : List Nat) (it : Nat → It) (S : Nat → List Nat) (a f : Nat) (F : Fo w o L p room n free it S) (hl : Live n free a) (hf : f ≤ 255) (hno : ∀ k ∈ S a, (it k).f &&& f = 0) :
    Calls Try.prog 14 #[.pointer (some ⟨p, 0, none⟩), .int .i64 a, .int .i64 f] w fun e w' => e = .returned (.tuple #[.int .i64 0, .int .i64 35]) ∧ ∃ o', Fo w' o' L p room n free it S ∧ Step (FL L) w o w' o' := by
  obtain ⟨pt, nd, T, F, H, e⟩ := F
  have hc := nodeIn w o L p room n free pt nd a F hl
  have hc2 := lift_any _ _ L p room n free pt nd T S a F H hl
  have hf0 : ¬ (f : Int) < 0 := by omega
  have hf1 : ¬ (255 : Int) < f := by omega
  have HN : Hid (∀ k ∈ S a, (it k).f &&& f = 0) := hno
  clear hno
  go_enter Try.func14, Try.ntmps14
  go_wp2_with fail
  refine hc.mono ?_
  rintro e w1 ⟨rfl, rfl⟩
  go_wp2_with fail
  refine hc2.mono ?_
  rintro e w2 ⟨rfl, nd2, T2, o2, F2, A2, S2⟩
  obtain ⟨_, _, _, _, ⟨_, _, _, _, _, c11⟩, hfz⟩ := (F2.node hl).cells12
  have e2 := A2.tr.ag a hl
  rw [A2.tr.itemsEq (A2.it' e) hl, A2.top hl] at e2
  have hz : (nd2 a).ag.flags &&& f = 0 := by
    rw [e2]
    refine (agg_flags f _).2 (fun x hx => ?_)
    obtain ⟨k, hk, rfl⟩ := List.mem_map.1 hx
    exact HN.out k hk
  have hbd : (nd2 a).ag.flags ≤ 255 := by
    rw [e2]
    refine (agg_bd _ (fun x hx => ?_)).flags
    obtain ⟨k, hk, rfl⟩ := List.mem_map.1 hx
    have lk := (A2.tr.mem a hl k hk).1
    rw [← A2.it' e k lk]; exact A2.tr.may k lk
  have hand := and_nat (nd2 a).ag.flags f hbd hf
  rw [hz] at hand
  have R := Fo.mk F2 A2.tr (A2.it' e)
  clear hc hc2 F H F2 A2 e2 hz hbd HN e
  go_wp2
  go_ret2
  exact ⟨rfl, o2, R, S2.nf⟩

/-- Where the first flagged node is, seen from a node on the way down. -/
theorem first_left {A B A' B' Tl Tr' : List Nat} {b c : Nat} {it : Nat → It} {f : Nat} (hno : (A ++ b :: B).Nodup) (e : A ++ b :: B = A' ++ (Tl ++ c :: Tr') ++ B') (hA : ∀ k ∈ A, (it k).f &&& f = 0) (hb : b ∈ Tl ++ c :: Tr') (x : Nat) (hx : x ∈ Tl) (hxf : (it x).f &&& f ≠ 0) : b ∈ Tl := by
  rcases List.mem_append.1 hb with h | h
  · exact h
  · exfalso
    obtain ⟨U, V, hUV⟩ := List.append_of_mem h
    have e2 : A ++ b :: B = (A' ++ Tl ++ U) ++ b :: (V ++ B') := by rw [e, hUV]; simp
    have e3 := (cut_unique hno e2).1
    exact hxf (hA x (by rw [e3]; simp [hx]))
theorem first_here {A B A' B' Tl Tr' : List Nat} {b c : Nat} {it : Nat → It} {f : Nat} (hno : (A ++ b :: B).Nodup) (e : A ++ b :: B = A' ++ (Tl ++ c :: Tr') ++ B') (hA : ∀ k ∈ A, (it k).f &&& f = 0) (hb : b ∈ Tl ++ c :: Tr') (hbl : b ∉ Tl) (hcf : (it c).f &&& f ≠ 0) : c = b := by
  rcases List.mem_append.1 hb with h | h
  · exact absurd h hbl
  · rcases List.mem_cons.1 h with h | h
    · exact h.symm
    · exfalso
      obtain ⟨U, V, hUV⟩ := List.append_of_mem h
      have e2 : A ++ b :: B = (A' ++ Tl ++ c :: U) ++ b :: (V ++ B') := by rw [e, hUV]; simp
      have e3 := (cut_unique hno e2).1
      exact hcf (hA c (by rw [e3]; simp))

set_option maxRecDepth 100000 in
set_option maxHeartbeats 1000000 in
theorem flagInF (w : World) (o : Nat → Nat) (L p room n : Nat) (free : List Nat) (it : Nat → It) (S : Nat → List Nat) (a f b : Nat) (A B : List Nat) (F : Fo w o L p room n free it S) (hl : Live n free a) (hf : f ≤ 255) (hA : S a = A ++ b :: B) (hno : ∀ k ∈ A, (it k).f &&& f = 0) (hbf : (it b).f &&& f ≠ 0) :
    Calls Try.prog 14 #[.pointer (some ⟨p, 0, none⟩), .int .i64 a, .int .i64 f] w fun e w' => e = .returned (.tuple #[.int .i64 b, .int .i64 0]) ∧ ∃ o', Fo w' o' L p room n free it S ∧ Step (FL L) w o w' o' := by
  have hnod := F.nodup hl
  obtain ⟨pt, nd, T, F, H, e⟩ := F
  have hc := nodeIn w o L p room n free pt nd a F hl
  have hc2 := lift_any _ _ L p room n free pt nd T S a F H hl
  have hf0 : ¬ (f : Int) < 0 := by omega
  have hf1 : ¬ (255 : Int) < f := by omega
  have hf2 : decide ((f : Int) < 0) = false := by simp [hf0]
  have hf3 : decide ((255 : Int) < f) = false := by simp [hf1]
  have HN : Hid ((A ++ b :: B).Nodup ∧ S a = A ++ b :: B ∧ (∀ k ∈ A, (it k).f &&& f = 0) ∧ (it b).f &&& f ≠ 0) := ⟨by rw [← hA]; exact hnod, hA, hno, hbf⟩
  clear hno hbf hA hnod
  go_enter Try.func14, Try.ntmps14
  go_wp2_with fail
  refine hc.mono ?_
  rintro e w1 ⟨rfl, rfl⟩
  go_wp2_with fail
  refine hc2.mono ?_
  rintro e w2 ⟨rfl, nd2, T2, o2, F2, A2, S2⟩
  obtain ⟨_, _, _, _, ⟨_, _, _, _, _, c11⟩, hfz⟩ := (F2.node hl).cells12
  have HI : Hid (∀ k, Live n free k → (nd2 k).it = it k) := A2.it' e
  have HT := A2.tr
  have htop := A2.top hl
  have bS : b ∈ S a := by rw [HN.out.2.1]; simp
  have lb := (HT.mem a hl b bS).1
  have e2 := HT.ag a hl
  rw [HT.itemsEq (HI.out) hl, htop] at e2
  have hmay : ∀ (c : Nat), (c ≠ 0 → Live n free c) → ∀ x ∈ (T2 c).map (fun k => (nd2 k).it), x.may := fun c hc => HT.mayT hc
  have hbd : (nd2 a).ag.flags ≤ 255 := by
    rw [HT.ag a hl]; exact (agg_bd _ (hmay a (fun _ => hl))).flags
  have hz : (nd2 a).ag.flags &&& f ≠ 0 := fun h0 => by
    rw [e2] at h0
    exact HN.out.2.2.2 ((agg_flags f _).1 h0 (it b) (List.mem_map.2 ⟨b, bS, rfl⟩))
  have hand := and_nat (nd2 a).ag.flags f hbd hf
  obtain ⟨qa, hqa⟩ : ∃ qa, qa = (nd2 a).ag.flags &&& f := ⟨_, rfl⟩
  rw [← hqa] at hand hz
  have hz2 : ((qa : Int) == 0) = false := by simp only [beq_eq_false_iff_ne, ne_eq]; omega
  have HTop : Hid (T2 a = S a) := htop
  clear hc hc2 F H e e2 htop hbd hqa hz
  go_wp2
  go_loopg [1] (T2 a).length (fun g v wr => Step (fun _ => False) w2 o2 wr o2 ∧ ∃ (c : Nat) (A' B' : List Nat), v = .int .i64 (c : Nat) ∧ Live n free c ∧ Hid (S a = A' ++ T2 c ++ B' ∧ b ∈ T2 c) ∧ (T2 c).length = g)
  case atStart => exact ⟨Step.refl _ _ _, a, [], [], rfl, hl, ⟨by rw [HTop.out]; simp, by rw [HTop.out]; exact bS⟩, rfl⟩
  case round =>
    obtain ⟨s3, c, A', B', rfl, lc, hAB, hg⟩ := hrel
    clear bS
    have F3 := F2.quiet s3
    have hcn := nodeIn wr o2 L p room n free pt nd2 c F3 lc
    obtain ⟨⟨_, _, d2⟩, d3, d4, d5, _, hd⟩ := (F3.node lc).cells12
    have hsub := HT.subOf (c := (nd2 c).l) (fun x => (HT.l c lc x).1) nd2 (fun _ => rfl) (fun _ => rfl)
    have hc3 := whole_sub wr wr o2 L p room n free pt nd2 (nd2 c).l _ F3 (Step.refl _ _ _) hsub
    rw [List.length_map] at hc3
    obtain ⟨ga, hga⟩ : ∃ ga, ga = agg ((T2 (nd2 c).l).map fun k => (nd2 k).it) := ⟨_, rfl⟩
    have gbd : ga.flags ≤ 255 := by rw [hga]; exact (agg_bd _ (hmay _ (fun x => (HT.l c lc x).1))).flags
    rw [← hga] at hc3
    unfold sumsV at hc3
    obtain ⟨z, hz⟩ : ∃ z, z = (T2 (nd2 c).l).length := ⟨_, rfl⟩
    rw [← hz] at hc3
    have hfd := field_agg z ga.count ga.sum ga.least ga.most ga.flags
    have hfd2 := field_flags ga.count ga.sum ga.least ga.most ga.flags
    have hand2 := and_nat ga.flags f gbd hf
    have hand3 := and_nat (nd2 c).it.f f (HT.may c lc).2.2 hf
    have Tc := HT.t c lc
    have lenc := HT.len lc
    have HTc : Hid (T2 c = T2 (nd2 c).l ++ c :: T2 (nd2 c).r) := Tc
    have ic : (nd2 c).it = it c := HI.out c lc
    have HCL : Hid (∀ wx, Step (fun _ => False) wr o2 wx o2 → wx.cell? ⟨pt c, 2, none⟩ = some (.int .i64 (nd2 c).it.f) ∧ wx.cell? ⟨pt c, 4, none⟩ = some (.int .i64 (nd2 c).l) ∧ wx.cell? ⟨pt c, 5, none⟩ = some (.int .i64 (nd2 c).r)) := fun wx s => by
      obtain ⟨⟨_, _, x2⟩, _, x4, x5, _, _⟩ := ((F3.quiet s).node lc).cells12
      exact ⟨x2, x4, x5⟩
    have gl : ga.flags &&& f = 0 ↔ ∀ k ∈ T2 (nd2 c).l, (it k).f &&& f = 0 := by
      rw [hga, agg_flags]
      constructor
      · intro h k hk
        have lk : Live n free k := by
          by_cases c0 : (nd2 c).l = 0
          · rw [c0, HT.t0] at hk; simp at hk
          · exact HT.memT (HT.l c lc c0).1 hk
        rw [← HI.out k lk]; exact h _ (List.mem_map.2 ⟨k, hk, rfl⟩)
      · intro h x hx
        obtain ⟨k, hk, rfl⟩ := List.mem_map.1 hx
        have lk : Live n free k := by
          by_cases c0 : (nd2 c).l = 0
          · rw [c0, HT.t0] at hk; simp at hk
          · exact HT.memT (HT.l c lc c0).1 hk
        rw [HI.out k lk]; exact h k hk
    obtain ⟨n1, n2, n3, n4⟩ := HN.out
    obtain ⟨hS, hbT⟩ := hAB.out
    rw [n2, Tc] at hS
    rw [Tc] at hbT
    by_cases h1 : ga.flags &&& f = 0
    · have hbl : b ∉ T2 (nd2 c).l := fun h => n4 (gl.1 h1 b h)
      rw [h1] at hand2
      by_cases h2 : (nd2 c).it.f &&& f = 0
      · rw [h2] at hand3
        have hbr : b ∈ T2 (nd2 c).r := by
          rcases List.mem_append.1 hbT with h | h
          · exact absurd h hbl
          · rcases List.mem_cons.1 h with h | h
            · exfalso; rw [ic, ← h] at h2; exact n4 h2
            · exact h
        have r0 : (nd2 c).r ≠ 0 := fun e0 => by rw [e0, HT.t0] at hbr; simp at hbr
        have lr := (HT.r c lc r0).1
        have HB : Hid (S a = (A' ++ (T2 (nd2 c).l ++ [c])) ++ T2 (nd2 c).r ++ B' ∧ b ∈ T2 (nd2 c).r) := ⟨by rw [n2, hS]; simp, hbr⟩
        clear HT hsub d2 d3 d5 d4 Tc ic gl n1 n2 n3 n4 hS hbT h1 h2 hbl hbr hga hz gbd hmay lb
        obtain ⟨_, d4, _⟩ := HCL.out wr (Step.refl _ _ _)
        go_wp2_with fail
        refine hcn.mono ?_
        rintro e w4 ⟨rfl, rfl⟩
        go_wp2_with fail
        refine hc3.mono ?_
        rintro e w5 ⟨rfl, s5⟩
        obtain ⟨y2, y4, y5⟩ := HCL.out _ s5
        have s6 := s3.trans s5
        clear hcn hc3 s5 s3
        go_wp2
        go_roundg (T2 (nd2 c).r).length
        case measure => omega
        case rel => exact ⟨s6, (nd2 c).r, _, _, rfl, lr, HB, rfl⟩
      · have hcb := first_here n1 hS n3 hbT hbl (by rw [← ic]; exact h2)
        obtain ⟨qc, hqc⟩ : ∃ qc, qc = (nd2 c).it.f &&& f := ⟨_, rfl⟩
        rw [← hqc] at hand3 h2
        have h2b : ((qc : Int) == 0) = false := by simp only [beq_eq_false_iff_ne, ne_eq]; omega
        have HC5 : Hid (∀ wx, Step (fun _ => False) wr o2 wx o2 → _) := fun wx s => lift_any wx o2 L p room n free pt nd2 T2 S c (F3.quiet (w' := wx) (o' := o2) s) HT lc
        have HB : Hid (c = b) := hcb
        clear HT hsub d2 d3 d5 d4 Tc ic gl n1 n2 n3 n4 hS hbT h1 h2 hbl hga hz gbd hmay lb hcb hqc
        obtain ⟨_, d4, _⟩ := HCL.out wr (Step.refl _ _ _)
        go_wp2_with fail
        refine hcn.mono ?_
        rintro e w4 ⟨rfl, rfl⟩
        go_wp2_with fail
        refine hc3.mono ?_
        rintro e w5 ⟨rfl, s5⟩
        obtain ⟨y2, y4, y5⟩ := HCL.out _ s5
        clear hcn hc3
        go_wp2_with fail
        refine (HC5.out _ s5).mono ?_
        rintro e w6 ⟨rfl, nd6, T6, o6, F6, A6, S6⟩
        have R := Fo.mk F6 A6.tr (A6.it' HI.out)
        have RS := (S2.nf.trans (s3.trans s5).ff).trans S6.nf
        clear HC5 F6 A6 S6 s5 s3
        go_wp2
        go_ret2
        exact ⟨by rw [← HB.out]; rfl, _, R, RS⟩
    · have hbl : b ∈ T2 (nd2 c).l := by
        have : ∃ x, x ∈ T2 (nd2 c).l ∧ (it x).f &&& f ≠ 0 := by
          apply Classical.byContradiction
          intro hx
          refine h1 (gl.2 (fun k hk => ?_))
          apply Classical.byContradiction
          intro h
          exact hx ⟨k, hk, h⟩
        obtain ⟨x, hx, hxf⟩ := this
        exact first_left n1 hS n3 hbT x hx hxf
      have l0 : (nd2 c).l ≠ 0 := fun e0 => by rw [e0, HT.t0] at hbl; simp at hbl
      have ll := (HT.l c lc l0).1
      obtain ⟨qc, hqc⟩ : ∃ qc, qc = ga.flags &&& f := ⟨_, rfl⟩
      rw [← hqc] at hand2 h1
      have h2b : ((qc : Int) == 0) = false := by simp only [beq_eq_false_iff_ne, ne_eq]; omega
      have HB : Hid (S a = A' ++ T2 (nd2 c).l ++ (c :: T2 (nd2 c).r ++ B') ∧ b ∈ T2 (nd2 c).l) := ⟨by rw [n2, hS]; simp, hbl⟩
      clear HT hsub d2 d3 d5 d4 Tc ic gl n1 n2 n3 n4 hS hbT h1 hbl hga hz gbd hmay lb hqc
      obtain ⟨_, d4, _⟩ := HCL.out wr (Step.refl _ _ _)
      go_wp2_with fail
      refine hcn.mono ?_
      rintro e w4 ⟨rfl, rfl⟩
      go_wp2_with fail
      refine hc3.mono ?_
      rintro e w5 ⟨rfl, s5⟩
      obtain ⟨y2, y4, y5⟩ := HCL.out _ s5
      have s6 := s3.trans s5
      clear hcn hc3 s5 s3
      go_wp2
      go_roundg (T2 (nd2 c).l).length
      case measure => omega
      case rel => exact ⟨s6, (nd2 c).l, _, _, rfl, ll, HB, rfl⟩

end Go.Proofs.Ythdmajddmajjoaa
