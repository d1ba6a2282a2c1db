/- A node becomes the root; the root of a node. -/
import Derived.Test.YtffmlffhiimmdaaExpose
namespace Go.Proofs.Ytffmlffhiimmdaa
open Go.ChangeShapes Go.WideShapes Go.ChangeAt Go.RowKit
set_option linter.unusedVariables false

/-- Trees in memory: of each live node the chain from its root down to it. -/
def Fg (w : World) (o : Nat → Nat) (L : Nat) (live : Nat → Prop) (pt : Nat → Nat) (E : Nat → Ed) (R : Nat → List Nat) : Prop :=
  ∃ nd hv T S P, Gw w o L live pt E nd hv T S P ∧ Rc live S P R ∧ Rt live R
theorem Hv.flip {E : Nat → Ed} {live : Nat → Prop} {T : Nat → List Nat} {hv : Nat → Nat} {a : Nat} (V : Hv E live T hv) : Hv E live (flipT T a) hv := fun k hk => (V k hk).congr (fun x => by unfold flipT; split <;> simp_all)
theorem OffT.flip {live : Nat → Prop} {nd : Nat → Ln} {T S R : Nat → List Nat} {P : Nat → Nat} {a : Nat} (H : Lc live nd T S P) (hR : Rc live S P R) (la : live a) : OffT live R a nd T S P (flipN nd a) (flipT T a) (flipS S a) P := fun k lk q => by
  have ka : k ≠ a := fun x => q (by rw [x])
  have k1 : k ∉ S a := fun x => q (Rc.one H hR la x)
  refine ⟨?_, ?_, ?_, rfl⟩
  · unfold flipN; rw [if_neg ka]
  · unfold flipT; rw [if_neg ka]
  · unfold flipS; rw [if_neg k1]

set_option maxRecDepth 100000 in
theorem evert_raw (w : World) (o : Nat → Nat) (L : Nat) (live : Nat → Prop) (pt : Nat → Nat) (E : Nat → Ed) (R : Nat → List Nat) (nd : Nat → Ln) (hv : Nat → Nat) (T S : Nat → List Nat) (P : Nat → Nat) (n : Nat) (G : Gw w o L live pt E nd hv T S P) (hR : Rc live S P R) (hT : Rt live R) (nl : live n) :
    Calls Try.prog 75 #[.pointer (some ⟨pt n, 0, none⟩)] w fun e w' => e = .returned (.tuple #[]) ∧ ∃ nd' hv' T' S' P', Gw w' o L live pt E nd' hv' T' S' P' ∧ (Rc live S' P' (turnR R n) ∧ P' n = 0 ∧ TopN nd' n ∧ (nd' n).up = 0 ∧ OffT live R n nd T S P nd' T' S' P') ∧ Step (NL L) w o w' o := by
  have hc := expose_any w o L live pt E R nd hv T S P n G hR nl
  go_enter Try.func75, Try.ntmps75
  go_wp2_with fail
  refine hc.mono ?_
  rintro e w1 ⟨rfl, nd1, hv1, T1, S1, P1, G1, ⟨hR1, s1, p1, t1, tw1, ot1⟩, SS1⟩
  obtain ⟨ta, pa⟩ := G1.c.top n nl t1
  have u0 : (nd1 n).up = 0 := by rw [← pa]; exact p1
  have H2 := G1.c.flip nl ta pa
  have hR2 := Rc.flip G1.c hT hR1 nl s1 p1
  obtain ⟨F2, Z2⟩ := G1.m.set_tw G1.s nl true
  have C1 := G1.m.node nl
  have c1 := C1.tw
  have f1 := C1.fz
  have G2 : Gw _ o L live pt E (flipN nd1 n) hv1 (flipT T1 n) (flipS S1 n) P1 := ⟨F2.congr (fun k _ => by unfold flipN upd; by_cases e : k = n <;> simp_all) (fun _ _ => rfl), G1.s, H2, G1.v.flip⟩
  have R2 : Rc live (flipS S1 n) P1 (turnR R n) ∧ P1 n = 0 ∧ TopN (flipN nd1 n) n ∧ (flipN nd1 n n).up = 0 ∧ OffT live R n nd T S P (flipN nd1 n) (flipT T1 n) (flipS S1 n) P1 := by
    have e1 : (flipN nd1 n n).up = 0 := by unfold flipN; rw [if_pos rfl]; exact u0
    exact ⟨hR2, p1, .inl e1, e1, ot1.trans (OffT.flip G1.c hR1 nl) rfl⟩
  have SS2 := SS1.trans Z2
  clear hc G hR C1 G1 F2 Z2 H2 hR2 SS1 ot1
  go_wp2
  go_end0
  exact ⟨rfl, _, _, _, _, _, G2, R2, SS2⟩

theorem evert_fg (w : World) (o : Nat → Nat) (L : Nat) (live : Nat → Prop) (pt : Nat → Nat) (E : Nat → Ed) (R : Nat → List Nat) (n : Nat) (F : Fg w o L live pt E R) (nl : live n) :
    Calls Try.prog 75 #[.pointer (some ⟨pt n, 0, none⟩)] w fun e w' => e = .returned (.tuple #[]) ∧ Fg w' o L live pt E (turnR R n) ∧ Step (NL L) w o w' o := by
  obtain ⟨nd, hv, T, S, P, G, hR, hT⟩ := F
  refine (evert_raw w o L live pt E R nd hv T S P n G hR hT nl).mono ?_
  rintro e w' ⟨rfl, nd', hv', T', S', P', G', ⟨hR', _⟩, S9⟩
  exact ⟨rfl, ⟨nd', hv', T', S', P', G', hR', hT.turn nl⟩, S9⟩

set_option maxRecDepth 100000 in
set_option maxHeartbeats 4000000 in
theorem root_fg (w : World) (o : Nat → Nat) (L : Nat) (live : Nat → Prop) (pt : Nat → Nat) (E : Nat → Ed) (R : Nat → List Nat) (n : Nat) (F : Fg w o L live pt E R) (nl : live n) :
    Calls Try.prog 49 #[.pointer (some ⟨pt n, 0, none⟩)] w fun e w' => ∃ r, e = .returned (.pointer (some ⟨pt r, 0, none⟩)) ∧ ((R n).head? = some r ∧ live r) ∧ Fg w' o L live pt E R ∧ Step (NL L) w o w' o := by
  obtain ⟨nd, hv, T, S, P, G, hR, hT⟩ := F
  have hc := expose_any w o L live pt E R nd hv T S P n G hR nl
  go_enter Try.func49, Try.ntmps49
  go_wp2_with fail
  refine hc.mono ?_
  rintro e w1 ⟨rfl, nd1, hv1, T1, S1, P1, G1, ⟨hR1, s1, p1, t1, tw1, _⟩, SS1⟩
  obtain ⟨ta, pa⟩ := G1.c.top n nl t1
  clear hc G hR
  go_wp2_with fail
  go_loopg [3] ((R n).length) (fun g vf wr => ∃ nd' T' f, vf = .pointer (some ⟨pt f, 0, none⟩) ∧ g = (T' f).length ∧ live f ∧ Gw wr o L live pt E nd' hv1 T' S1 P1 ∧ ((nd' f).tw = false ∧ ∃ B, R n = T' f ++ B) ∧ Step (NL L) w o wr o)
  case atStart => exact ⟨nd1, T1, n, rfl, by rw [ta, s1], nl, G1, ⟨tw1, [], by rw [ta, s1]; simp⟩, SS1⟩
  case round =>
    obtain ⟨nd2, T2, f, rfl, rfl, fl, G2, ⟨tw2, B, eB⟩, SS2⟩ := hrel
    clear G1 ta pa SS1 t1 tw1
    have C := G2.m.node fl
    have cl := C.l
    by_cases l0 : (nd2 f).l = 0
    · rw [l0, pq0] at cl
      have hc := lift_any wr o L live pt E nd2 hv1 T2 S1 P1 f G2 fl
      have hd : (R n).head? = some f ∧ live f := by
        refine ⟨?_, fl⟩
        rw [eB, G2.c.t f fl, if_neg (by simp [tw2]), l0, G2.c.t0]; simp
      clear C
      go_wp2_with fail
      refine hc.mono ?_
      rintro e w3 ⟨rfl, nd3, hv3, T3, G3, _, SS3⟩
      have SS4 := SS2.trans SS3
      clear hc SS2 SS3
      go_wp2
      go_ret
      exact ⟨f, rfl, hd, ⟨nd3, hv3, T3, S1, P1, G3, hR1, hT⟩, SS4⟩
    · rw [pqn pt l0] at cl
      have ll := G2.c.cl f fl |>.2.1 l0
      have hc := settle_any wr o L live pt E nd2 hv1 T2 S1 P1 (nd2 f).l G2 ll
      have lt := G2.c.lt_l fl
      have tf := G2.c.t f fl
      rw [if_neg (by simp [tw2])] at tf
      have n1 := G2.c.ne_l ll
      have n2 := G2.c.ne_r ll
      clear C
      go_wp2_with fail
      refine hc.mono ?_
      rintro e w3 ⟨rfl, nd3, T3, G3, O3, SS3⟩
      have SS4 := SS2.trans SS3
      have e3 : T3 (nd2 f).l = T2 (nd2 f).l := O3.tt _ (Ne.symm n1) (Ne.symm n2)
      have X : (nd3 (nd2 f).l).tw = false ∧ ∃ B, R n = T3 (nd2 f).l ++ B := ⟨O3.tw, f :: T2 (nd2 f).r ++ B, by rw [e3, eB, tf]; simp⟩
      clear hc SS2 SS3 O3 G2
      go_wp2
      go_roundg ((T3 (nd2 f).l).length)
      case measure => rw [e3]; exact lt
      case rel => exact ⟨nd3, T3, (nd2 f).l, rfl, rfl, ll, G3, X, SS4⟩

end Go.Proofs.Ytffmlffhiimmdaa
