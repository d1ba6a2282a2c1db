/- The path from the root down to a node is made one. -/
import Derived.Test.YtffmlffhiimmdaaSwap2
namespace Go.Proofs.Ytffmlffhiimmdaa
open Go.ChangeShapes Go.WideShapes Go.ChangeAt Go.RowKit
set_option linter.unusedVariables false

/-- Where expose stands: what is below is one path down to n. -/
def Ex (live : Nat → Prop) (nd : Nat → Ln) (T S : Nat → List Nat) (P : Nat → Nat) (n at_ rest : Nat) : Prop :=
  (rest = 0 ∧ at_ = n) ∨ (live rest ∧ T rest = S rest ∧ (nd rest).up = at_ ∧ P rest = at_ ∧ ∃ A, S rest = A ++ [n])
def exM (R : Nat → List Nat) (a : Nat) : Nat := if a = 0 then 0 else (R a).length
theorem Rc.at_self {live : Nat → Prop} {nd : Nat → Ln} {T S R : Nat → List Nat} {P : Nat → Nat} (H : Lc live nd T S P) (hR : Rc live S P R) {a : Nat} (la : live a) : ∃ A, R a = (if P a = 0 then [] else R (P a)) ++ A ++ [a] := by
  obtain ⟨A, B, e⟩ := List.append_of_mem (H.self a la)
  exact ⟨A, hR a la A a B e⟩

/-- Nodes of one path have one root. -/
theorem Rc.one {live : Nat → Prop} {nd : Nat → Ln} {T S R : Nat → List Nat} {P : Nat → Nat} (H : Lc live nd T S P) (hR : Rc live S P R) {a b : Nat} (la : live a) (hb : b ∈ S a) : (R b).head? = (R a).head? := by
  have key : ∀ b ∈ S a, (R b).head? = ((if P a = 0 then [] else R (P a)) ++ S a).head? := by
    intro b hb
    obtain ⟨A, B, e⟩ := List.append_of_mem hb
    rw [hR a la A b B e, e]
    cases (if P a = 0 then [] else R (P a)) with
    | cons x X => simp
    | nil => cases A <;> simp
  rw [key b hb, key a (H.self a la)]
/-- Other trees' nodes stand. -/
def OffT (live : Nat → Prop) (R : Nat → List Nat) (n : Nat) (nd : Nat → Ln) (T S : Nat → List Nat) (P : Nat → Nat) (nd' : Nat → Ln) (T' S' : Nat → List Nat) (P' : Nat → Nat) : Prop :=
  ∀ k, live k → (R k).head? ≠ (R n).head? → nd' k = nd k ∧ T' k = T k ∧ S' k = S k ∧ P' k = P k
theorem Off.tree {live : Nat → Prop} {nd nd' : Nat → Ln} {T T' S R : Nat → List Nat} {P : Nat → Nat} {a : Nat} (H : Lc live nd T S P) (hR : Rc live S P R) (la : live a) (h : Off live nd T S a nd' T') : OffT live R a nd T S P nd' T' S P := fun k lk q => by
  have := h k lk (fun x => q (Rc.one H hR la (by rw [← x]; exact H.self k lk)))
  exact ⟨this.1, this.2, rfl, rfl⟩
theorem OffT.trans {live : Nat → Prop} {R : Nat → List Nat} {n m : Nat} {nd nd1 nd2 : Nat → Ln} {T T1 T2 S S1 S2 : Nat → List Nat} {P P1 P2 : Nat → Nat} (a : OffT live R n nd T S P nd1 T1 S1 P1) (b : OffT live R m nd1 T1 S1 P1 nd2 T2 S2 P2) (e : (R m).head? = (R n).head?) : OffT live R n nd T S P nd2 T2 S2 P2 := fun k lk q => by
  obtain ⟨a1, a2, a3, a4⟩ := a k lk q
  obtain ⟨b1, b2, b3, b4⟩ := b k lk (by rw [e]; exact q)
  exact ⟨b1.trans a1, b2.trans a2, b3.trans a3, b4.trans a4⟩
theorem OffT.swap {live : Nat → Prop} {nd : Nat → Ln} {T S R : Nat → List Nat} {P : Nat → Nat} {a b : Nat} (H : Lc live nd T S P) (hR : Rc live S P R) (la : live a) (hta : T a = S a) (tw : (nd a).tw = false) (hb : b = 0 ∨ (live b ∧ T b = S b ∧ (nd b).up = a ∧ P b = a)) :
    OffT live R a nd T S P (swapN nd a b) (swapT nd T a b) (swapS nd T S a b) (swapP nd T P a b) := fun k lk q => by
  have Ta : T a = T (nd a).l ++ a :: T (nd a).r := by rw [H.t a la, if_neg (by simp [tw])]
  have ka : k ≠ a := fun x => q (by rw [x])
  have k1 : k ∉ S a := fun x => q (Rc.one H hR la x)
  rw [← hta, Ta] at k1
  have kr : k ∉ T (nd a).r := fun x => k1 (List.mem_append_right _ (List.mem_cons_of_mem _ x))
  have kl : k ∉ T (nd a).l := fun x => k1 (List.mem_append_left _ x)
  have kb : k ∉ T b := fun x => by
    rcases hb with y | ⟨lb, tb, _, pb⟩
    · rw [y, H.t0] at x; simp at x
    · rw [tb] at x
      refine q ?_
      rw [Rc.one H hR lb x]
      obtain ⟨A, e⟩ := Rc.at_self H hR lb
      rw [pb, if_neg (H.ne0 la)] at e
      obtain ⟨A2, e2⟩ := Rc.at_self H hR la
      rw [e, e2]
      simp [List.head?_append]
  refine ⟨?_, ?_, ?_, ?_⟩
  · unfold swapN; rw [if_neg ka]
  · unfold swapT; rw [if_neg ka]
  · unfold swapS; rw [if_neg kr, if_neg (by rintro (x | x | x); exact kl x; exact ka x; exact kb x)]
  · unfold swapP; rw [if_neg kr, if_neg kb]

set_option maxRecDepth 100000 in
set_option maxHeartbeats 4000000 in
theorem expose_any (w : World) (o : Nat → Nat) (L : Nat) (live : Nat → Prop) (pt : Nat → Nat) (E : Nat → Ed) (R : Nat → List Nat) (nd : Nat → Ln) (hv : Nat → Nat) (T S : Nat → List Nat) (P : Nat → Nat) (n : Nat) (G : Gw w o L live pt E nd hv T S P) (hR : Rc live S P R) (nl : live n) :
    Calls Try.prog 57 #[.pointer (some ⟨pt n, 0, none⟩)] w fun e w' => e = .returned (.tuple #[]) ∧ ∃ nd' hv' T' S' P', Gw w' o L live pt E nd' hv' T' S' P' ∧ (Rc live S' P' R ∧ S' n = R n ∧ P' n = 0 ∧ TopN nd' n ∧ (nd' n).tw = false ∧ OffT live R n nd T S P nd' T' S' P') ∧ Step (NL L) w o w' o := by
  have n0 := G.s.ne nl
  go_enter Try.func57, Try.ntmps57
  go_wp2_with fail
  go_loopg [2, 3] (exM R n) (fun g vr va wr => ∃ nd' hv' T' S' P' at_ rest, vr = .pointer (pq pt rest) ∧ va = .pointer (pq pt at_) ∧ g = exM R at_ ∧ (at_ ≠ 0 → live at_) ∧ Gw wr o L live pt E nd' hv' T' S' P' ∧ Rc live S' P' R ∧ (Ex live nd' T' S' P' n at_ rest ∧ (at_ ≠ 0 → (R at_).head? = (R n).head?) ∧ OffT live R n nd T S P nd' T' S' P') ∧ Step (NL L) w o wr o)
  case atStart => exact ⟨nd, hv, T, S, P, n, 0, rfl, by rw [pqn pt n0], rfl, fun _ => nl, G, hR, ⟨.inl ⟨rfl, rfl⟩, fun _ => rfl, fun _ _ _ => ⟨rfl, rfl, rfl, rfl⟩⟩, Step.refl _ _ _⟩
  case round =>
    obtain ⟨nd1, hv1, T1, S1, P1, a, r, rfl, rfl, rfl, la, G1, hR1, ⟨X1, ha, OT1⟩, SS1⟩ := hrel
    clear G hR
    by_cases a0 : a = 0
    · subst a0
      rw [pq0]
      have key : S1 n = R n ∧ P1 n = 0 := by
        rcases X1 with ⟨_, x⟩ | ⟨lr, tr, ur, pr, A, sr⟩
        · exact absurd x.symm n0
        · have mn : n ∈ S1 r := by rw [sr]; simp
          have q := G1.c.mem r lr n mn
          have := hR1 r lr A n [] sr
          rw [pr, if_pos rfl] at this
          refine ⟨by rw [q.2.1, sr, this]; simp, by rw [q.2.2, pr]⟩
      have hc := lift_any wr o L live pt E nd1 hv1 T1 S1 P1 n G1 nl
      clear X1 la
      go_wp2_with fail
      refine hc.mono ?_
      rintro e w2 ⟨rfl, nd2, hv2, T2, G2, ⟨t2, tw2, of2⟩, SS2⟩
      have OT2 := OT1.trans (of2.tree G1.c hR1 nl) rfl
      have SS3 := SS1.trans SS2
      clear hc SS1 SS2 G1
      go_wp2
      go_end0
      exact ⟨rfl, nd2, hv2, T2, S1, P1, G2, ⟨hR1, key.1, key.2, t2, tw2, OT2⟩, SS3⟩
    · have la := la a0
      rw [pqn pt a0]
      have hc := lift_any wr o L live pt E nd1 hv1 T1 S1 P1 a G1 la
      go_wp2_with fail
      refine hc.mono ?_
      rintro e w2 ⟨rfl, nd2, hv2, T2, G2, ⟨t2, tw2, of2⟩, SS2⟩
      have SS2 := SS1.trans SS2
      obtain ⟨ta, pa⟩ := G2.c.top a la t2
      have hb : r = 0 ∨ (live r ∧ T2 r = S1 r ∧ (nd2 r).up = a ∧ P1 r = a) := by
        rcases X1 with ⟨x, _⟩ | ⟨lr, tr, ur, pr, A, sr⟩
        · exact .inl x
        · have ne : S1 r ≠ S1 a := by
            have := G1.c.out r lr (by rw [pr]; exact a0)
            rw [pr] at this; exact fun x => this x.symm
          obtain ⟨o1, o2⟩ := of2 r lr ne
          exact .inr ⟨lr, by rw [o2]; exact tr, by rw [o1]; exact ur, pr⟩
      have hr0 : r ≠ 0 → live r := fun x => (hb.resolve_left x).1
      have H3 := G2.c.swap hR1 la ta pa tw2 hb
      have hR3 := Rc.swapped G2.c hR1 la ta tw2 hb
      have V3 := Hv.swap (E := E) (b := r) G2.c G2.v la hr0
      obtain ⟨F3, Z3⟩ := G2.m.set_r G2.s la r
      have F3 : Lm _ o L live pt E (swapN nd2 a r) hv2 := F3.congr (fun k _ => by unfold swapN upd; split <;> simp_all) (fun _ _ => rfl)
      have C2 := G2.m.node la
      have c2 := C2.r
      have f2 := C2.fz
      have hk := reckon_any _ o L live pt E _ hv2 a F3 G2.s H3.cl (G2.v.hc G2.c) la (H3.ne_l la) (H3.ne_r la)
      have X3 : Ex live (swapN nd2 a r) (swapT nd2 T2 a r) (swapS nd2 T2 S1 a r) (swapP nd2 T2 P1 a r) n (nd2 a).up a := by
        obtain ⟨s1, s2⟩ := swapS_a (b := r) G2.c la tw2
        refine .inr ⟨la, ?_, ?_, by rw [s2, pa], ?_⟩
        · rw [s1]; unfold swapT; rw [if_pos rfl]
        · unfold swapN; rw [if_pos rfl]
        · rw [s1]
          rcases X1 with ⟨x, y⟩ | ⟨lr, tr, ur, pr, A, sr⟩
          · subst x; subst y; rw [G2.c.t0]; exact ⟨_, rfl⟩
          · have e1 : T2 r = A ++ [n] := by rw [← sr]; exact (hb.resolve_left (G2.s.ne lr)).2.1
            exact ⟨T2 (nd2 a).l ++ a :: A, by rw [e1]; simp⟩
      have lu := G2.c.u a la
      have ha1 := ha a0
      have OT3 := (OT1.trans (of2.tree G1.c hR1 la) ha1).trans (OffT.swap G2.c hR1 la ta tw2 hb) ha1
      have hu3 : (nd2 a).up ≠ 0 → (R (nd2 a).up).head? = (R n).head? := fun x => by
        obtain ⟨A, eA⟩ := Rc.at_self G2.c hR1 la
        obtain ⟨B, eB⟩ := Rc.at_self G2.c hR1 (lu x)
        rw [pa, if_neg x] at eA
        rw [← ha1, eA, eB]
        simp [List.head?_append]
      have hm : exM R (nd2 a).up < exM R a := by
        obtain ⟨A, eA⟩ := Rc.at_self G2.c hR1 la
        unfold exM
        rw [if_neg a0, eA, pa]
        split <;> simp <;> omega
      have gs := G2.s
      clear hc SS1 G1 X1 C2 ta pa hb t2 of2 hR1 OT1 ha ha1
      go_wp2_with fail
      refine hk.mono ?_
      rintro e w4 ⟨rfl, F4, SS4⟩
      have G4 : Gw w4 o L live pt E _ _ _ _ _ := ⟨F4, gs, H3, V3⟩
      have SS4 := (SS2.trans Z3).trans SS4
      have c4 := (F4.node la).up
      have e4 : (swapN nd2 a r a).up = (nd2 a).up := by unfold swapN; rw [if_pos rfl]
      rw [e4] at c4
      clear hk F4 Z3 SS2 H3 V3 F3 c2 f2 G2 e4 tw2
      go_wp2
      go_roundg (exM R (nd2 a).up)
      case measure => exact hm
      case rel => exact ⟨_, _, _, _, _, (nd2 a).up, a, by rw [pqn pt a0], rfl, rfl, lu, G4, hR3, ⟨X3, hu3, OT3⟩, SS4⟩

end Go.Proofs.Ytffmlffhiimmdaa
