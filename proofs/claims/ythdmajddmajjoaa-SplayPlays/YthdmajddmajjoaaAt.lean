/- At, Flagged: a way down. -/
import Derived.Test.YthdmajddmajjoaaAsks
namespace Go.Proofs.Ythdmajddmajjoaa
open Go.ChangeShapes Go.WideShapes Go.ChangeAt Go.RowKit
set_option linter.unusedVariables false

theorem atOutF (w : World) (o : Nat → Nat) (L p room n : Nat) (free : List Nat) (it : Nat → It) (S : Nat → List Nat) (x k : Int) (F : Fo w o L p room n free it S) (hb : hasB n free x = false) :
    Calls Try.prog 30 #[.pointer (some ⟨p, 0, none⟩), .int .i64 x, .int .i64 k] w fun e w' => e = .returned (.tuple #[.int .i64 0, .int .i64 31]) ∧ w' = w := by
  obtain ⟨pt, nd, T, F, H, e⟩ := F
  have hc := nodeOut w o L p room n free pt nd x F hb
  clear F H e
  go_enter Try.func30, Try.ntmps30
  go_wp2_with fail
  refine hc.mono ?_
  rintro e w1 ⟨rfl, rfl⟩
  go_wp2
  go_ret2
  exact ⟨rfl, rfl⟩
theorem atNegF (w : World) (o : Nat → Nat) (L p room n : Nat) (free : List Nat) (it : Nat → It) (S : Nat → List Nat) (a : Nat) (k : Int) (F : Fo w o L p room n free it S) (hl : Live n free a) (hk : k < 0) :
    Calls Try.prog 30 #[.pointer (some ⟨p, 0, none⟩), .int .i64 a, .int .i64 k] w fun e w' => e = .returned (.tuple #[.int .i64 0, .int .i64 34]) ∧ w' = w := by
  obtain ⟨pt, nd, T, F, H, e⟩ := F
  have hc := nodeIn w o L p room n free pt nd a F hl
  clear F H e
  go_enter Try.func30, Try.ntmps30
  go_wp2_with fail
  refine hc.mono ?_
  rintro e w1 ⟨rfl, rfl⟩
  go_wp2
  go_ret2
  exact ⟨rfl, rfl⟩
set_option maxRecDepth 100000 in
theorem atBigF (w : World) (o : Nat → Nat) (L p room n : Nat) (free : List Nat) (it : Nat → It) (S : Nat → List Nat) (a : Nat) (k : Int) (F : Fo w o L p room n free it S) (hl : Live n free a) (hk : ((S a).length : Int) ≤ k) :
    Calls Try.prog 30 #[.pointer (some ⟨p, 0, none⟩), .int .i64 a, .int .i64 k] w fun e w' => e = .returned (.tuple #[.int .i64 0, .int .i64 34]) ∧ ∃ o', Fo w' o' L p room n free it S ∧ Step (FL L) w o w' o' := by
  obtain ⟨pt, nd, T, F, H, e⟩ := F
  have hc := nodeIn w o L p room n free pt nd a F hl
  have hc2 := lift_any _ _ L p room n free pt nd T S a F H hl
  have hk0 : ¬ k < 0 := by omega
  go_enter Try.func30, Try.ntmps30
  go_wp2_with fail
  refine hc.mono ?_
  rintro e w1 ⟨rfl, rfl⟩
  go_wp2_with fail
  refine hc2.mono ?_
  rintro e w2 ⟨rfl, nd2, T2, o2, F2, A2, S2⟩
  obtain ⟨_, _, _, _, ⟨c6, _⟩, hf⟩ := (F2.node hl).cells12
  have hsz := A2.tr.sz a hl
  rw [A2.top hl] at hsz
  rw [hsz] at c6
  have R := Fo.mk F2 A2.tr (A2.it' e)
  clear hc hc2 F H F2 A2 hsz e
  go_wp2
  go_ret2
  exact ⟨rfl, o2, R, S2.nf⟩

set_option maxRecDepth 100000 in
set_option maxHeartbeats 1000000 in
theorem atInF (w : World) (o : Nat → Nat) (L p room n : Nat) (free : List Nat) (it : Nat → It) (S : Nat → List Nat) (a k b : Nat) (F : Fo w o L p room n free it S) (hl : Live n free a) (hk : (S a)[k]? = some b) :
    Calls Try.prog 30 #[.pointer (some ⟨p, 0, none⟩), .int .i64 a, .int .i64 k] w fun e w' => e = .returned (.tuple #[.int .i64 b, .int .i64 0]) ∧ ∃ o', Fo w' o' L p room n free it S ∧ Step (FL L) w o w' o' := by
  have hlen := F.len hl
  have hkl : k < (S a).length := (List.getElem?_eq_some_iff.1 hk).1
  obtain ⟨pt, nd, T, F, H, e⟩ := F
  have hn := F.le
  have hc := nodeIn w o L p room n free pt nd a F hl
  have hc2 := lift_any _ _ L p room n free pt nd T S a F H hl
  have hk0 : ¬ (k : Int) < 0 := by omega
  have hk0b : decide ((k : Int) < 0) = false := by simp [hk0]
  have hk1 : ¬ ((S a).length : Int) ≤ k := by omega
  have hk1b : decide ((S a).length ≤ k) = false := by simp; omega
  have HK : Hid ((S a)[k]? = some b) := hk
  clear hk
  go_enter Try.func30, Try.ntmps30
  go_wp2_with fail
  refine hc.mono ?_
  rintro e w1 ⟨rfl, rfl⟩
  go_wp2_with fail
  refine hc2.mono ?_
  rintro e w2 ⟨rfl, nd2, T2, o2, F2, A2, S2⟩
  obtain ⟨_, _, _, _, ⟨c6, _⟩, hf⟩ := (F2.node hl).cells12
  have hsz := A2.tr.sz a hl
  rw [A2.top hl] at hsz
  rw [hsz] at c6
  have HI : Hid (∀ k, Live n free k → (nd2 k).it = it k) := A2.it' e
  have HT := A2.tr
  have htop := A2.top hl
  have HTop : Hid (T2 a = S a) := htop
  clear hc hc2 F H e hsz htop
  go_wp2
  go_loopg [1, 2] (T2 a).length (fun g v u wr => Step (fun _ => False) w2 o2 wr o2 ∧ ∃ (c m : Nat) (A B : List Nat), v = .int .i64 (c : Nat) ∧ u = .int .i64 (m : Nat) ∧ Live n free c ∧ Hid (S a = A ++ T2 c ++ B ∧ k = A.length + m) ∧ m < (T2 c).length ∧ (T2 c).length = g)
  case atStart => exact ⟨Step.refl _ _ _, a, k, [], [], rfl, rfl, hl, ⟨by rw [HTop.out]; simp, by simp⟩, by rw [HTop.out]; exact hkl, rfl⟩
  case round =>
    obtain ⟨s3, c, m, A, B, rfl, rfl, lc, hAB, hm, hg⟩ := hrel
    have F3 := F2.quiet s3
    have hcn := nodeIn wr o2 L p room n free pt nd2 c F3 lc
    obtain ⟨_, d3, d4, d5, _, hd⟩ := (F3.node lc).cells12
    have hsub := HT.subOf (c := (nd2 c).l) (fun x => (HT.l c lc x).1) nd2 (fun _ => rfl) (fun _ => rfl)
    have hc3 := whole_sub wr wr o2 L p room n free pt nd2 (nd2 c).l _ F3 (Step.refl _ _ _) hsub
    rw [List.length_map] at hc3
    obtain ⟨ga, hga⟩ : ∃ ga, ga = agg ((T2 (nd2 c).l).map fun k => (nd2 k).it) := ⟨_, rfl⟩
    rw [← hga] at hc3
    unfold sumsV at hc3
    have hfd := field_size (T2 (nd2 c).l).length ga.count ga.sum ga.least ga.most ga.flags
    have Tc := HT.t c lc
    have lenc := HT.len lc
    have lN := HT.lenN lc
    have HTc : Hid (T2 c = T2 (nd2 c).l ++ c :: T2 (nd2 c).r) := Tc
    have cl : ∀ wx, Step (fun _ => False) wr o2 wx o2 → wx.cell? ⟨pt c, 4, none⟩ = some (.int .i64 (nd2 c).l) ∧ wx.cell? ⟨pt c, 5, none⟩ = some (.int .i64 (nd2 c).r) := fun wx s => by
      obtain ⟨_, _, x4, x5, _, _⟩ := ((F3.quiet s).node lc).cells12
      exact ⟨x4, x5⟩
    have HCL : Hid _ := cl
    obtain ⟨z, hz⟩ : ∃ z, z = (T2 (nd2 c).l).length := ⟨_, rfl⟩
    rw [← hz] at hc3 hfd lenc
    have HZ : Hid (z = (T2 (nd2 c).l).length) := hz
    clear hga Tc cl hsub d3 d5
    by_cases h1 : m < z
    · have h1' : (m : Int) < (z : Int) := by omega
      have l0 : (nd2 c).l ≠ 0 := fun e0 => by rw [e0, HT.t0] at hz; simp at hz; omega
      have ll := (HT.l c lc l0).1
      clear HT hz
      go_wp2_with fail
      refine hcn.mono ?_
      rintro e w4 ⟨rfl, rfl⟩
      go_wp2_with fail
      refine hc3.mono ?_
      rintro e w5 ⟨rfl, s5⟩
      obtain ⟨y4, y5⟩ := HCL.out _ s5
      have s6 := s3.trans s5
      clear hcn hc3 s5 s3
      go_wp2
      go_roundg z
      case measure => omega
      case rel => exact ⟨s6, (nd2 c).l, m, A, c :: T2 (nd2 c).r ++ B, rfl, rfl, ll, ⟨by rw [hAB.out.1, HTc.out]; simp, hAB.out.2⟩, by rw [← HZ.out]; exact h1, HZ.out.symm⟩
    · have h1' : ¬ (m : Int) < (z : Int) := by omega
      by_cases h2 : z < m
      · have h2' : (z : Int) < (m : Int) := by omega
        have r0 : (nd2 c).r ≠ 0 := fun e0 => by rw [e0, HT.t0] at lenc; simp at lenc; omega
        have lr := (HT.r c lc r0).1
        clear HT hz
        go_wp2_with fail
        refine hcn.mono ?_
        rintro e w4 ⟨rfl, rfl⟩
        go_wp2_with fail
        refine hc3.mono ?_
        rintro e w5 ⟨rfl, s5⟩
        obtain ⟨y4, y5⟩ := HCL.out _ s5
        have s6 := s3.trans s5
        clear hcn hc3 s5 s3
        go_wp2
        go_roundg (T2 (nd2 c).r).length
        case measure => omega
        case rel => exact ⟨s6, (nd2 c).r, m - (z + 1), A ++ (T2 (nd2 c).l ++ [c]), B, rfl, by go_num, lr, ⟨by rw [hAB.out.1, HTc.out]; simp, by rw [hAB.out.2]; simp [← HZ.out]; omega⟩, by omega, rfl⟩
      · have hmz : m = z := by omega
        subst hmz
        have hcb : c = b := by
          have hk := HK.out
          rw [hAB.out.1, hAB.out.2, HTc.out, List.getElem?_append_left (by simp; omega), List.getElem?_append_right (by omega)] at hk
          simp [hz] at hk
          exact hk
        subst hcb
        have F4 := fun wx s => F3.quiet (w' := wx) (o' := o2) s
        have hc5 := fun wx s => lift_any wx o2 L p room n free pt nd2 T2 S c (F4 wx s) HT lc
        have HC5 : Hid _ := hc5
        clear HT F4 hc5 hz
        go_wp2_with fail
        refine hcn.mono ?_
        rintro e w4 ⟨rfl, rfl⟩
        go_wp2_with fail
        refine hc3.mono ?_
        rintro e w5 ⟨rfl, s5⟩
        clear hcn hc3
        go_wp2_with fail
        refine (HC5.out _ s5).mono ?_
        rintro e w6 ⟨rfl, nd6, T6, o6, F6, A6, S6⟩
        have R := Fo.mk F6 A6.tr (A6.it' HI.out)
        have RS := (S2.nf.trans (s3.trans s5).ff).trans S6.nf
        clear HC5 F6 A6 S6 s5 s3
        go_wp2
        go_ret2
        exact ⟨rfl, _, R, RS⟩

end Go.Proofs.Ythdmajddmajjoaa
