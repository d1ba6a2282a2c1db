/- Join. -/
import Derived.Test.YthdmajddmajjoaaMake
namespace Go.Proofs.Ythdmajddmajjoaa
open Go.ChangeShapes Go.WideShapes Go.ChangeAt Go.RowKit
set_option linter.unusedVariables false

theorem joinOutA (w : World) (o : Nat → Nat) (L p room n : Nat) (free : List Nat) (it : Nat → It) (S : Nat → List Nat) (x y : Int) (F : Fo w o L p room n free it S) (hb : hasB n free x = false) :
    Calls Try.prog 11 #[.pointer (some ⟨p, 0, none⟩), .int .i64 x, .int .i64 y] w fun e w' => e = .returned (.int .i64 31) ∧ w' = w := by
  have hc := sameOutA w o L p room n free it S x y F hb
  clear F
  go_enter Try.func11, Try.ntmps11
  go_wp2_with fail
  refine hc.mono ?_
  rintro e w1 ⟨rfl, rfl⟩
  go_wp2
  go_ret
  exact ⟨rfl, rfl⟩
theorem joinOutB (w : World) (o : Nat → Nat) (L p room n : Nat) (free : List Nat) (it : Nat → It) (S : Nat → List Nat) (a : Nat) (y : Int) (F : Fo w o L p room n free it S) (ha : Live n free a) (hb : hasB n free y = false) :
    Calls Try.prog 11 #[.pointer (some ⟨p, 0, none⟩), .int .i64 a, .int .i64 y] w fun e w' => e = .returned (.int .i64 31) ∧ w' = w := by
  have hc := sameOutB w o L p room n free it S a y F ha hb
  clear F
  go_enter Try.func11, Try.ntmps11
  go_wp2_with fail
  refine hc.mono ?_
  rintro e w1 ⟨rfl, rfl⟩
  go_wp2
  go_ret
  exact ⟨rfl, rfl⟩
theorem joinSameF (w : World) (o : Nat → Nat) (L p room n : Nat) (free : List Nat) (it : Nat → It) (S : Nat → List Nat) (a b : Nat) (F : Fo w o L p room n free it S) (ha : Live n free a) (hb : Live n free b) (hs : S a = S b) :
    Calls Try.prog 11 #[.pointer (some ⟨p, 0, none⟩), .int .i64 a, .int .i64 b] w fun e w' => e = .returned (.int .i64 33) ∧ ∃ o', Fo w' o' L p room n free it S ∧ Step (FL L) w o w' o' := by
  have hc := sameInF w o L p room n free it S a b F ha hb
  have e1 : decide (S a = S b) = true := by simp [hs]
  rw [e1] at hc
  clear F e1 hs
  go_enter Try.func11, Try.ntmps11
  go_wp2_with fail
  refine hc.mono ?_
  rintro e w1 ⟨rfl, o1, F1, S1⟩
  go_wp2
  go_ret
  exact ⟨rfl, o1, F1, S1⟩

/-- Who is last in its sequence has nothing behind it, once it is at the top. -/
theorem Tr.last_r {live : Nat → Prop} {N : Nat} {nd : Nat → Nd} {T S : Nat → List Nat} (H : Tr live N nd T S) {c : Nat} {A : List Nat} (hc : live c) (u : (nd c).up = 0) (e : S c = A ++ [c]) : (nd c).r = 0 := by
  by_cases r0 : (nd c).r = 0
  · exact r0
  · exfalso
    have h1 := H.t c hc
    rw [H.root c hc u, e] at h1
    have hno : (A ++ c :: []).Nodup := by rw [← e]; exact H.nodupSeq hc
    have h2 := (cut_unique hno h1).2
    have := H.len (H.r c hc r0).1
    rw [← h2] at this
    simp at this
    omega

set_option maxRecDepth 100000 in
set_option maxHeartbeats 1000000 in
theorem joinInF (w : World) (o : Nat → Nat) (L p room n : Nat) (free : List Nat) (it : Nat → It) (S : Nat → List Nat) (a b : Nat) (F : Fo w o L p room n free it S) (ha : Live n free a) (hb : Live n free b) (hs : S a ≠ S b) :
    Calls Try.prog 11 #[.pointer (some ⟨p, 0, none⟩), .int .i64 a, .int .i64 b] w fun e w' => e = .returned (.int .i64 0) ∧ ∃ o', Fo w' o' L p room n free it (joinS S a b) ∧ Step (FL L) w o w' o' := by
  have hn := F.le
  have hc := sameInF w o L p room n free it S a b F ha hb
  have e1 : decide (S a = S b) = false := by simp [hs]
  rw [e1] at hc
  clear F e1
  go_enter Try.func11, Try.ntmps11
  go_wp2_with fail
  refine hc.mono ?_
  rintro e w1 ⟨rfl, o1, ⟨pt, nd, T, F1, H, ei⟩, S1⟩
  have hc2 := lift_any _ _ L p room n free pt nd T S a F1 H ha
  clear hc
  go_wp2_with fail
  refine hc2.mono ?_
  rintro e w2 ⟨rfl, nd2, T2, o2, F2, A2, S2⟩
  clear hc2 F1 H
  have S12 := S1.trans S2.nf
  go_wp2
  go_loopg [9] (T2 a).length (fun g v wr => wr = w2 ∧ ∃ c A, v = .int .i64 (c : Nat) ∧ Live n free c ∧ S a = A ++ T2 c ∧ (T2 c).length = g)
  case atStart => exact ⟨rfl, a, [], rfl, ha, by rw [A2.top ha]; rfl, rfl⟩
  case round =>
    obtain ⟨rfl, c, A, rfl, lc, hA, hg⟩ := hrel
    have hcn := nodeIn wr o2 L p room n free pt nd2 c F2 lc
    obtain ⟨_, d3, d4, d5, _, hd⟩ := (F2.node lc).cells12
    have Tc := A2.tr.t c lc
    have lenc := A2.tr.len lc
    by_cases r0 : (nd2 c).r = 0
    · have cS : c ∈ S a := by rw [hA, Tc]; simp
      have ScSa := (A2.tr.mem a ha c cS).2
      have Sc : S c = (A ++ T2 (nd2 c).l) ++ [c] := by rw [ScSa, hA, Tc, r0, A2.tr.t0]; simp
      have hc3 := lift_any _ _ L p room n free pt nd2 T2 S c F2 A2.tr lc
      rw [r0] at d5
      have E2 := A2.it' ei
      have HT2 := A2.tr
      have HS : Hid (S a ≠ S b) := hs
      have HC : Hid (S c = S a ∧ S c = (A ++ T2 (nd2 c).l) ++ [c]) := ⟨ScSa, Sc⟩
      clear A2 hA Tc lenc ScSa Sc hs d3 d4 ei cS
      go_wp2_with fail
      refine hcn.mono ?_
      rintro e w3 ⟨rfl, rfl⟩
      go_wp2_with fail
      refine hc3.mono ?_
      rintro e w4 ⟨rfl, nd4, T4, o4, F4, A4, S4⟩
      have hc5 := lift_any _ _ L p room n free pt nd4 T4 S b F4 A4.tr hb
      clear hcn hc3 F2 d5 hd
      go_wp2_with fail
      refine hc5.mono ?_
      rintro e w5 ⟨rfl, nd5, T5, o5, F5, A5, S5⟩
      obtain ⟨ScSa, Sc⟩ := HC.out
      have hne : S c ≠ S b := by rw [ScSa]; exact HS.out
      have cb : c ∉ S b := fun h => hne (A5.tr.mem b hb c h).2
      have ec := (A5.other c cb).1
      have uc : (nd5 c).up = 0 := by rw [ec]; exact A4.up
      have rc : (nd5 c).r = 0 := A5.tr.last_r lc uc Sc
      have hcb : c ≠ b := fun e => hne (by rw [e])
      have hc6 := hang_any w5 o5 L p room n free pt nd5 c 1 b F5 lc (by omega) (.inr hb)
      have S45 := (S12.trans S4.nf).trans S5.nf
      have Tc5 := A5.tr.root c lc uc
      have Tb5 := A5.tr.root b hb A5.up
      have tc := A5.tr.t c lc
      rw [rc, A5.tr.t0] at tc
      have lenc := A5.tr.len lc
      have lc2 : (nd5 c).l ≠ c := fun e => by rw [e] at lenc; omega
      have subl : Sub n free (hangN nd5 c 1 b) (nd5 c).l ((T5 (nd5 c).l).map fun k => (nd5 k).it) := A5.tr.subOf (fun x => (A5.tr.l c lc x).1) _ (fun _ => (hangN_rest ..).2.1) (fun _ => (hangN_rest ..).2.2)
      have subr : Sub n free (hangN nd5 c 1 b) b ((T5 b).map fun k => (nd5 k).it) := A5.tr.subOf (fun _ => hb) _ (fun _ => (hangN_rest ..).2.1) (fun _ => (hangN_rest ..).2.2)
      have hl1 : (hangN nd5 c 1 b c).l = (nd5 c).l := by rw [hangN_l]; simp
      have hr1 : (hangN nd5 c 1 b c).r = b := by rw [hangN_r]; simp
      have hi1 : (hangN nd5 c 1 b c).it = (nd5 c).it := (hangN_rest ..).1
      have lA := A5.tr.lenT (fun e => (A5.tr.l c lc e).1)
      have lB := A5.tr.lenN hb
      have hc7 : Hid (∀ wx, Fm wx o5 L p room n free pt (hangN nd5 c 1 b) → Calls Try.prog 43 #[.pointer (some ⟨p, 0, none⟩), .int .i64 c] wx fun e w' => e = .returned (.tuple #[]) ∧ Fo w' o5 L p room n free it (joinS S a b) ∧ Step (NL L) wx o5 w' o5) := fun wx Fx => by
        have := reckon_any wx o5 L p room n free pt _ c _ _ Fx lc (by rw [hl1]; exact subl) (by rw [hr1]; exact subr) (A5.tr.mayT (fun e => (A5.tr.l c lc e).1)) (A5.tr.mayT (fun _ => hb)) (by rw [hi1]; exact A5.tr.may c lc) (by simp; omega) (by simp; omega)
        have HZ := A5.tr.join lc hb uc A5.up rc hne (((T5 (nd5 c).l).map fun k => (nd5 k).it).length + 1 + ((T5 b).map fun k => (nd5 k).it).length) (agg ((T5 (nd5 c).l).map (fun k => (nd5 k).it) ++ (hangN nd5 c 1 b c).it :: (T5 b).map fun k => (nd5 k).it))
          (by rw [← Tc5, ← Tb5, tc]; simp) (by rw [hi1, ← Tc5, ← Tb5, tc]; simp)
        refine this.mono ?_
        rintro e w' ⟨rfl, F7, S7⟩
        have ej : joinS S c b = joinS S a b := by unfold joinS; rw [ScSa]
        rw [ej] at HZ
        refine ⟨rfl, Fo.mk F7 HZ (fun k hk => ?_), S7⟩
        have : (upd (hangN nd5 c 1 b) c ((hangN nd5 c 1 b c).setSum (((T5 (nd5 c).l).map fun k => (nd5 k).it).length + 1 + ((T5 b).map fun k => (nd5 k).it).length) (agg ((T5 (nd5 c).l).map (fun k => (nd5 k).it) ++ (hangN nd5 c 1 b c).it :: (T5 b).map fun k => (nd5 k).it))) k).it = (nd5 k).it := by
          by_cases e : k = c
          · subst e; rw [upd_same]; exact (hangN_rest ..).1
          · rw [upd_other _ _ e]; exact (hangN_rest ..).1
        rw [this, A5.it, A4.it]; exact E2 k hk
      clear hc5 F4 A4 A5 F5 S4 S5 ScSa Sc hne cb ec uc rc Tc5 Tb5 tc lenc lc2 subl subr hl1 hr1 hi1 lA lB HC HS HT2 E2
      go_wp2_with fail
      refine hc6.mono ?_
      rintro e w6 ⟨rfl, F6, S6⟩
      go_wp2_with fail
      refine (hc7.out _ F6).mono ?_
      rintro e w7 ⟨rfl, F7, S7⟩
      have RS := (S45.trans S6.nf).trans S7.nf
      clear hc6 hc7 F6 S45 S6 S7
      go_wp2
      go_ret
      exact ⟨rfl, _, F7, RS⟩
    · have r1 : (((nd2 c).r : Int) == 0) = false := by simp only [beq_eq_false_iff_ne, ne_eq]; omega
      have lr := (A2.tr.r c lc r0).1
      have hA2 : S a = (A ++ (T2 (nd2 c).l ++ [c])) ++ T2 (nd2 c).r := by rw [hA, Tc]; simp
      have HA2 : Hid (S a = (A ++ (T2 (nd2 c).l ++ [c])) ++ T2 (nd2 c).r) := hA2
      clear hA Tc d3 d4 hA2 hs
      go_wp2_with fail
      refine hcn.mono ?_
      rintro e w3 ⟨rfl, rfl⟩
      go_wp2_with fail
      refine hcn.mono ?_
      rintro e w3 ⟨rfl, rfl⟩
      go_wp2
      go_roundg (T2 (nd2 c).r).length
      case measure => omega
      case rel => exact ⟨rfl, (nd2 c).r, _, rfl, lr, HA2.out, rfl⟩

end Go.Proofs.Ythdmajddmajjoaa
