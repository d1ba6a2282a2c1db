/- Split. -/
import Derived.Test.YthdmajddmajjoaaMake
namespace Go.Proofs.Ythdmajddmajjoaa
open Go.ChangeShapes Go.WideShapes Go.ChangeAt Go.RowKit
set_option linter.unusedVariables false

theorem splitOutF (w : World) (o : Nat → Nat) (L p room n : Nat) (free : List Nat) (it : Nat → It) (S : Nat → List Nat) (x : Int) (F : Fo w o L p room n free it S) (hb : hasB n free x = false) :
    Calls Try.prog 23 #[.pointer (some ⟨p, 0, none⟩), .int .i64 x] w fun e w' => e = .returned (.int .i64 31) ∧ w' = w := by
  obtain ⟨pt, nd, T, F, H, e⟩ := F
  have hc := nodeOut w o L p room n free pt nd x F hb
  clear F H e
  go_enter Try.func23, Try.ntmps23
  go_wp2_with fail
  refine hc.mono ?_
  rintro e w1 ⟨rfl, rfl⟩
  go_wp2
  go_ret
  exact ⟨rfl, rfl⟩
theorem splitS_nil {live : Nat → Prop} {N : Nat} {nd : Nat → Nd} {T S : Nat → List Nat} (H : Tr live N nd T S) {a : Nat} {B : List Nat} (ha : live a) (e : S a = a :: B) : splitS S [] a B = S := by
  funext k
  unfold splitS
  rw [if_neg (by simp)]
  split
  · next h => rw [← e] at h; rw [(H.mem a ha k h).2, e]
  · rfl

set_option maxRecDepth 100000 in
theorem splitInF (w : World) (o : Nat → Nat) (L p room n : Nat) (free : List Nat) (it : Nat → It) (S : Nat → List Nat) (a : Nat) (A B : List Nat) (F : Fo w o L p room n free it S) (hl : Live n free a) (hA : S a = A ++ a :: B) :
    Calls Try.prog 23 #[.pointer (some ⟨p, 0, none⟩), .int .i64 a] w fun e w' => e = .returned (.int .i64 0) ∧ ∃ o', Fo w' o' L p room n free it (splitS S A a B) ∧ Step (FL L) w o w' o' := by
  obtain ⟨pt, nd, T, F, H, e⟩ := F
  have hn := F.le
  have hc := nodeIn _ _ L p room n free pt nd a F hl
  have hc2 := lift_any _ _ L p room n free pt nd T S a F H hl
  go_enter Try.func23, Try.ntmps23
  go_wp2_with fail
  refine hc.mono ?_
  rintro e w1 ⟨rfl, rfl⟩
  go_wp2_with fail
  refine hc2.mono ?_
  rintro e w2 ⟨rfl, nd2, T2, o2, F2, A2, S2⟩
  clear hc hc2
  obtain ⟨_, c3, c4, c5, _, hf⟩ := (F2.node hl).cells12
  have e1 := A2.tr.t a hl
  rw [A2.top hl, hA] at e1
  have hno : (A ++ a :: B).Nodup := by rw [← hA]; exact A2.tr.nodupSeq hl
  obtain ⟨eA, eB⟩ := cut_unique hno e1
  by_cases l0 : (nd2 a).l = 0
  · rw [l0, A2.tr.t0] at eA
    subst eA
    have R : Fo w2 o2 L p room n free it (splitS S [] a B) := by rw [splitS_nil A2.tr hl hA]; exact Fo.mk F2 A2.tr (A2.it' e)
    rw [l0] at c4
    clear e1 hno eB F2 A2 F H e c3 c5
    go_wp2
    go_ret
    exact ⟨rfl, o2, R, S2.nf⟩
  · have l1 : (((nd2 a).l : Int) == 0) = false := by simp only [beq_eq_false_iff_ne, ne_eq]; omega
    obtain ⟨ll, ul⟩ := A2.tr.l a hl l0
    have lenh := A2.tr.len hl
    have nl : (nd2 a).l ≠ a := fun e => by rw [e] at lenh; omega
    have nr : (nd2 a).r ≠ a := fun e => by rw [e] at lenh; omega
    have hc3 := nodeIn w2 o2 L p room n free pt nd2 (nd2 a).l F2 ll
    obtain ⟨_, d3, _, _, _, hd⟩ := (F2.node ll).cells12
    obtain ⟨F3, S3⟩ := F2.set ll 3 (.int .i64 0) ((nd2 (nd2 a).l).setUp 0) (by simp [Nd.cells, Nd.setUp])
    obtain ⟨_, _, g4, g5, _, hg⟩ := (F3.node hl).cells12
    obtain ⟨F4, S4⟩ := F3.set hl 4 (.int .i64 0) (((upd nd2 (nd2 a).l ((nd2 (nd2 a).l).setUp 0)) a).setCh 0 0) (by simp [Nd.cells, Nd.setCh])
    have nlr : (nd2 a).r ≠ 0 → (nd2 a).r ≠ (nd2 a).l := fun h0 => A2.tr.rl hl h0
    have ndl : (upd nd2 (nd2 a).l ((nd2 (nd2 a).l).setUp 0)) a = nd2 a := upd_other _ _ (Ne.symm nl)
    have erN : (((upd nd2 (nd2 a).l ((nd2 (nd2 a).l).setUp 0)) a).setCh 0 0).r = (nd2 a).r := by rw [ndl]; rfl
    have emN : (((upd nd2 (nd2 a).l ((nd2 (nd2 a).l).setUp 0)) a).setCh 0 0).it = (nd2 a).it := by rw [ndl]; rfl
    have subr := A2.tr.subOf (c := (nd2 a).r) (fun x => (A2.tr.r a hl x).1) (upd (upd nd2 (nd2 a).l ((nd2 (nd2 a).l).setUp 0)) a (((upd nd2 (nd2 a).l ((nd2 (nd2 a).l).setUp 0)) a).setCh 0 0)) (fun h0 => by rw [upd_other _ _ nr, upd_other _ _ (nlr h0)]) (fun h0 => by rw [upd_other _ _ nr, upd_other _ _ (nlr h0)])
    have lR := A2.tr.lenT (fun e => (A2.tr.r a hl e).1)
    have hc5 := reckon_any _ _ L p room n free pt _ a [] _ F4 hl (by rw [upd_same]; exact .inl ⟨by simp [Nd.setCh], rfl⟩) (by rw [upd_same, erN]; exact subr) (by simp) (A2.tr.mayT (fun e => (A2.tr.r a hl e).1)) (by rw [upd_same, emN]; exact A2.tr.may a hl) (by simp) (by simp; omega)
    rw [upd_same] at hc5
    have HZ := A2.tr.split hl A2.up rfl l0 _ _ (show (([] : List It).length + 1 + ((T2 (nd2 a).r).map fun k => (nd2 k).it).length) = (a :: T2 (nd2 a).r).length by simp; omega) (show agg ([] ++ (nd2 a).it :: ((T2 (nd2 a).r).map fun k => (nd2 k).it)) = _ from rfl)
    rw [← eA, ← eB] at HZ
    have EZ : ∀ k, Live n free k → ((cutN nd2 a (nd2 a).l (([] : List It).length + 1 + ((T2 (nd2 a).r).map fun k => (nd2 k).it).length) (agg ([] ++ (nd2 a).it :: ((T2 (nd2 a).r).map fun k => (nd2 k).it)))) k).it = it k := fun k hk => by
      unfold cutN
      by_cases e2 : k = a
      · subst e2; rw [upd_same, ndl]; exact A2.it' e k hk
      · rw [upd_other _ _ e2, upd_other _ _ e2]
        by_cases e3 : k = (nd2 a).l
        · subst e3; rw [upd_same]; exact A2.it' e _ hk
        · rw [upd_other _ _ e3]; exact A2.it' e k hk
    have eN : (((upd nd2 (nd2 a).l ((nd2 (nd2 a).l).setUp 0)) a).setCh 0 0).it = (nd2 a).it := by rw [ndl]; rfl
    rw [eN, ← eB] at hc5
    rw [← eB] at EZ
    have RS := S2.nf.trans (S3.nf.trans S4.nf)
    rw [ndl] at g4
    clear e1 hno eA eB F F2 H A2 e c3 c5 ul lenh nl nr nlr ndl erN emN subr lR eN S3 S4 g5 F3
    go_wp2_with fail
    refine hc3.mono ?_
    rintro e w3 ⟨rfl, rfl⟩
    go_wp2_with fail
    refine hc5.mono ?_
    rintro e w6 ⟨rfl, F6, S6⟩
    have R := Fo.mk F6 HZ EZ
    have RT := RS.trans S6.nf
    clear hc5 hc3 F4 HZ EZ F6 S6 RS
    go_wp2
    go_ret
    exact ⟨rfl, _, R, RT⟩

end Go.Proofs.Ythdmajddmajjoaa
