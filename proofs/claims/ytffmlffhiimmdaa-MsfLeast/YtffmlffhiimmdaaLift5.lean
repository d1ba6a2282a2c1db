/- A node is lifted to the top of its path's tree. -/
import Derived.Test.YtffmlffhiimmdaaTurnW
import Derived.Deep.LoopGhost
namespace Go.Proofs.Ytffmlffhiimmdaa
open Go.ChangeShapes Go.WideShapes Go.ChangeAt Go.RowKit
set_option linter.unusedVariables false

structure SettleOut (live : Nat → Prop) (nd : Nat → Ln) (T S : Nat → List Nat) (h : Nat) (nd' : Nat → Ln) (T' : Nat → List Nat) : Prop where
  tw : (nd' h).tw = false
  up : ∀ k, (nd' k).up = (nd k).up
  lr : ∀ k, k ≠ h → (nd' k).l = (nd k).l ∧ (nd' k).r = (nd k).r
  lrh : ((nd' h).l = (nd h).l ∧ (nd' h).r = (nd h).r) ∨ ((nd' h).l = (nd h).r ∧ (nd' h).r = (nd h).l)
  len : ∀ k, (T' k).length = (T k).length
  two : ∀ k, k ≠ h → k ≠ (nd h).l → k ≠ (nd h).r → (nd' k).tw = (nd k).tw
  off : ∀ k, live k → S k ≠ S h → nd' k = nd k ∧ T' k = T k
  tt : ∀ k, k ≠ (nd h).l → k ≠ (nd h).r → T' k = T k
theorem SettleOut.child {live : Nat → Prop} {nd nd' : Nat → Ln} {T T' S : Nat → List Nat} {h : Nat} (O : SettleOut live nd T S h nd' T') (k c : Nat) (e : (nd k).l = c ∨ (nd k).r = c) : (nd' k).l = c ∨ (nd' k).r = c := by
  by_cases q : k = h
  · subst q
    rcases O.lrh with ⟨a, b⟩ | ⟨a, b⟩ <;> rw [a, b]
    · exact e
    · exact e.symm
  · rw [(O.lr k q).1, (O.lr k q).2]; exact e
theorem settle_any (w : World) (o : Nat → Nat) (L : Nat) (live : Nat → Prop) (pt : Nat → Nat) (E : Nat → Ed) (nd : Nat → Ln) (hv : Nat → Nat) (T S : Nat → List Nat) (P : Nat → Nat) (h : Nat) (G : Gw w o L live pt E nd hv T S P) (hl : live h) :
    Calls Try.prog 59 #[.pointer (some ⟨pt h, 0, none⟩)] w fun e w' => e = .returned (.tuple #[]) ∧ ∃ nd' T', Gw w' o L live pt E nd' hv T' S P ∧ SettleOut live nd T S h nd' T' ∧ Step (NL L) w o w' o := by
  by_cases e : (nd h).tw = true
  · refine (settle_yes w o L live pt E nd hv h G.m G.s G.c.cl hl e (G.c.ne_l hl) (G.c.ne_r hl) (G.c.lr hl)).mono ?_
    rintro ee w' ⟨rfl, F', S'⟩
    refine ⟨rfl, _, _, ⟨F', G.s, G.c.settle hl e, G.v.settle⟩, ⟨?_, ?_, ?_, ?_, ?_, ?_, ?_, ?_⟩, S'⟩
    · rw [settleN_h]
    · exact settleN_up nd h
    · exact settleN_lr nd h
    · rw [settleN_h]; exact .inr ⟨rfl, rfl⟩
    · intro k; unfold settleT; split <;> simp
    · intro k a b c
      unfold settleN
      rw [if_neg a, if_neg]
      rintro ⟨_, x | x⟩
      · exact b x
      · exact c x
    · intro k lk sk
      have kh : k ≠ h := fun x => sk (by rw [x])
      have kc : ¬ (k ≠ 0 ∧ (k = (nd h).l ∨ k = (nd h).r)) := by
        rintro ⟨x0, x | x⟩
        · have := (G.c.l h hl (by rw [← x]; exact x0)).2.2; rw [← x] at this; exact sk this
        · have := (G.c.r h hl (by rw [← x]; exact x0)).2.2; rw [← x] at this; exact sk this
      refine ⟨?_, ?_⟩
      · unfold settleN; rw [if_neg kh, if_neg kc]
      · unfold settleT; rw [if_neg]; exact fun x => kc x.2
    · intro k a b
      unfold settleT; rw [if_neg]; exact fun x => x.2.2.elim a b
  · have e' : (nd h).tw = false := by simpa using e
    refine (settle_no w o L live pt E nd hv h G.m hl e').mono ?_
    rintro ee w' ⟨rfl, rfl⟩
    exact ⟨rfl, nd, T, G, ⟨e', fun _ => rfl, fun _ _ => ⟨rfl, rfl⟩, .inl ⟨rfl, rfl⟩, fun _ => rfl, fun _ _ _ _ => rfl, fun _ _ _ => ⟨rfl, rfl⟩, fun _ _ _ => rfl⟩, Step.refl _ _ _⟩
theorem notTop {nd : Nat → Ln} {h : Nat} (t : ¬ TopN nd h) : (nd h).up ≠ 0 ∧ ((nd (nd h).up).l = h ∨ (nd (nd h).up).r = h) :=
  ⟨fun x => t (.inl x), Classical.byContradiction fun x => t (.inr ⟨fun y => x (.inl y), fun y => x (.inr y)⟩)⟩
theorem Lc.lt_child {live : Nat → Prop} {nd : Nat → Ln} {T S : Nat → List Nat} {P : Nat → Nat} (H : Lc live nd T S P) {u h : Nat} (ul : live u) (e : (nd u).l = h ∨ (nd u).r = h) : (T h).length < (T u).length := by
  rcases e with e | e
  · rw [← e]; exact H.lt_l ul
  · rw [← e]; exact H.lt_r ul
theorem Lc.up_of {live : Nat → Prop} {nd : Nat → Ln} {T S : Nat → List Nat} {P : Nat → Nat} (H : Lc live nd T S P) {u h : Nat} (ul : live u) (h0 : h ≠ 0) (e : (nd u).l = h ∨ (nd u).r = h) : (nd h).up = u := by
  rcases e with e | e
  · have := (H.l u ul (by rw [e]; exact h0)).2.1; rwa [e] at this
  · have := (H.r u ul (by rw [e]; exact h0)).2.1; rwa [e] at this
theorem Lc.lenS {live : Nat → Prop} {nd : Nat → Ln} {T S : Nat → List Nat} {P : Nat → Nat} (H : Lc live nd T S P) {h : Nat} (hl : live h) : (T h).length ≤ (S h).length :=
  lenle (H.nodup h hl) fun x hx => by have := H.sub hl hx; rw [← this.2]; exact H.self x this.1

/-- Two settles, then a turn. -/
theorem two_settles {live : Nat → Prop} {nd nd1 nd2 : Nat → Ln} {T T1 T2 S : Nat → List Nat} {P : Nat → Nat} {h u : Nat} (H : Lc live nd T S P) (hl : live h) (ul : live u) (hu : (nd h).up = u) (e : (nd u).l = h ∨ (nd u).r = h) (A : SettleOut live nd T S u nd1 T1) (B : SettleOut live nd1 T1 S h nd2 T2) (H1 : Lc live nd1 T1 S P) :
    (nd2 h).up = u ∧ ((nd2 u).l = h ∨ (nd2 u).r = h) ∧ (nd2 h).tw = false ∧ (nd2 u).tw = false ∧ (∀ k, (T2 k).length = (T k).length) := by
  have e1 := A.child u h e
  have NE := H1.near hl ul e1
  refine ⟨by rw [B.up, A.up, hu], B.child u h e1, B.tw, ?_, fun k => by rw [B.len, A.len]⟩
  rw [B.two u (Ne.symm NE.hu) (Ne.symm NE.lh.2) (Ne.symm NE.rh.2), A.tw]
theorem three_settles {live : Nat → Prop} {nd nd0 nd1 nd2 : Nat → Ln} {T T0 T1 T2 S : Nat → List Nat} {P : Nat → Nat} {h u g : Nat} (H : Lc live nd T S P) (hl : live h) (ul : live u) (gl : live g) (hu : (nd h).up = u) (ug : (nd u).up = g) (e : (nd u).l = h ∨ (nd u).r = h) (eg : (nd g).l = u ∨ (nd g).r = u)
    (Z : SettleOut live nd T S g nd0 T0) (A : SettleOut live nd0 T0 S u nd1 T1) (B : SettleOut live nd1 T1 S h nd2 T2) (H0 : Lc live nd0 T0 S P) (H1 : Lc live nd1 T1 S P) :
    ((nd2 h).up = u ∧ ((nd2 u).l = h ∨ (nd2 u).r = h) ∧ (nd2 h).tw = false ∧ (nd2 u).tw = false ∧ (∀ k, (T2 k).length = (T k).length)) ∧ (nd2 u).up = g ∧ ((nd2 g).l = u ∨ (nd2 g).r = u) ∧ (nd2 g).tw = false := by
  have e0 := Z.child u h e
  have q := two_settles H0 hl ul (by rw [Z.up, hu]) e0 A B H1
  have g0 := Z.child g u eg
  have g1 := A.child g u g0
  have N0 := H0.near ul gl g0
  have N1 := H1.near ul gl g1
  have e1 := A.child u h e0
  have lt1 := H1.lt_child ul e1
  have lt2 := H1.lt_child gl g1
  have gh : g ≠ h := fun x => by rw [x] at lt2; omega
  have gc : ∀ c, ((nd1 h).l = c ∨ (nd1 h).r = c) → g ≠ c := fun c hc x => by have := H1.lt_child hl hc; rw [← x] at this; omega
  refine ⟨⟨q.1, q.2.1, q.2.2.1, q.2.2.2.1, fun k => by rw [q.2.2.2.2, Z.len]⟩, by rw [B.up, A.up, Z.up, ug], B.child g u g1, ?_⟩
  rw [B.two g gh (gc _ (.inl rfl)) (gc _ (.inr rfl)), A.two g (Ne.symm N0.hu) (Ne.symm N0.lh.2) (Ne.symm N0.rh.2), Z.tw]

/-- Other paths' nodes stand. -/
def Off (live : Nat → Prop) (nd : Nat → Ln) (T S : Nat → List Nat) (h : Nat) (nd' : Nat → Ln) (T' : Nat → List Nat) : Prop := ∀ k, live k → S k ≠ S h → nd' k = nd k ∧ T' k = T k
theorem Off.trans {live : Nat → Prop} {nd nd1 nd2 : Nat → Ln} {T T1 T2 S : Nat → List Nat} {h u : Nat} (a : Off live nd T S h nd1 T1) (b : Off live nd1 T1 S u nd2 T2) (e : S u = S h) : Off live nd T S h nd2 T2 := fun k lk sk => by
  obtain ⟨a1, a2⟩ := a k lk sk
  obtain ⟨b1, b2⟩ := b k lk (by rw [e]; exact sk)
  exact ⟨b1.trans a1, b2.trans a2⟩

set_option maxRecDepth 100000 in
set_option maxHeartbeats 4000000 in
theorem lift_any (w : World) (o : Nat → Nat) (L : Nat) (live : Nat → Prop) (pt : Nat → Nat) (E : Nat → Ed) (nd : Nat → Ln) (hv : Nat → Nat) (T S : Nat → List Nat) (P : Nat → Nat) (h : Nat) (G : Gw w o L live pt E nd hv T S P) (hl : live h) :
    Calls Try.prog 60 #[.pointer (some ⟨pt h, 0, none⟩)] w fun e w' => e = .returned (.tuple #[]) ∧ ∃ nd' hv' T', Gw w' o L live pt E nd' hv' T' S P ∧ (TopN nd' h ∧ (nd' h).tw = false ∧ Off live nd T S h nd' T') ∧ Step (NL L) w o w' o := by
  have HN := G.c.lenS hl
  go_enter Try.func60, Try.ntmps60
  go_wp2_with fail
  go_loopg [3] ((S h).length - (T h).length) (fun g _ wr => ∃ nd' hv' T', (T' h).length + g = (S h).length ∧ Gw wr o L live pt E nd' hv' T' S P ∧ Off live nd T S h nd' T' ∧ Step (NL L) w o wr o)
  case atStart => exact ⟨nd, hv, T, by omega, G, fun _ _ _ => ⟨rfl, rfl⟩, Step.refl _ _ _⟩
  case round =>
    obtain ⟨nd1, hv1, T1, hg, G1, OF1, S1⟩ := hrel
    have ht := isTop_cl wr o L live pt E nd1 hv1 h G1.m G1.s G1.c.cl hl
    clear G HN
    by_cases t : TopN nd1 h
    · rw [decide_eq_true t] at ht
      go_wp2_with fail
      refine ht.mono ?_
      rintro e w1 ⟨rfl, rfl⟩
      go_wp2_with fail
      refine (settle_any _ o L live pt E nd1 hv1 T1 S P h G1 hl).mono ?_
      rintro e w2 ⟨rfl, nd2, T2, G2, O2, S2⟩
      have S3 := S1.trans S2
      have R : TopN nd2 h ∧ (nd2 h).tw = false ∧ Off live nd T S h nd2 T2 := by
        refine ⟨?_, O2.tw, OF1.trans O2.off rfl⟩
        unfold TopN at t ⊢
        rw [O2.up]
        by_cases q : (nd1 h).up = h
        · have a := (G1.c.top h hl t).2
          rw [q] at a
          exact absurd (by rw [a]) (G1.c.out h hl (by rw [a]; exact G1.s.ne hl))
        · rw [(O2.lr _ q).1, (O2.lr _ q).2]; exact t
      clear ht S1 S2 G1 t O2
      go_wp2
      go_end0
      exact ⟨rfl, nd2, hv1, T2, G2, R, S3⟩
    · obtain ⟨u0, eu⟩ := notTop t
      have ul := G1.c.u h hl u0
      have cu := (G1.m.node hl).up
      rw [pqn pt u0] at cu
      rw [decide_eq_false t] at ht
      have ht2 := isTop_cl wr o L live pt E nd1 hv1 _ G1.m G1.s G1.c.cl ul
      generalize hu : (nd1 h).up = u at *
      by_cases t2 : TopN nd1 u
      · rw [decide_eq_true t2] at ht2
        have HS := G1.c.lt_child ul eu
        have Suh := G1.c.Su ul (G1.s.ne hl) eu
        go_wp2_with fail
        refine ht.mono ?_
        rintro e w1 ⟨rfl, rfl⟩
        go_wp2_with fail
        refine ht2.mono ?_
        rintro e w1 ⟨rfl, rfl⟩
        clear ht ht2
        go_wp2_with fail
        refine (settle_any _ o L live pt E nd1 hv1 T1 S P u G1 ul).mono ?_
        rintro e w2 ⟨rfl, nd2, T2, G2, O2, S2⟩
        have S2 := S1.trans S2
        clear S1 cu
        go_wp2_with fail
        refine (settle_any _ o L live pt E nd2 hv1 T2 S P h G2 hl).mono ?_
        rintro e w3 ⟨rfl, nd3, T3, G3, O3, S3⟩
        have S3 := S2.trans S3
        obtain ⟨q1, q2, q3, q4, q5⟩ := two_settles G1.c hl ul hu eu O2 O3 G2.c
        have OF3 := (OF1.trans O2.off Suh).trans O3.off rfl
        clear OF1 S2 O2 O3 G2 G1 t t2 hu
        go_wp2_with fail
        refine (turn_any _ o L live pt E nd3 hv1 T3 S P h u G3 hl q1 ul q2 q3 q4).mono ?_
        rintro e w4 ⟨rfl, nd4, hv4, T4, G4, O4, S4⟩
        have S4 := S3.trans S4
        have l1 := G4.c.lenS hl
        have l2 : (T1 h).length < (T4 h).length := by rw [O4.top, q5]; exact HS
        have OF4 := (OF3.trans O4.off rfl)
        clear OF3 S3 G3 O4 q1 q2 q3 q4 q5 HS eu
        go_wp2
        go_roundg ((S h).length - (T4 h).length)
        case measure => omega
        case rel => exact ⟨nd4, hv4, T4, by omega, G4, OF4, S4⟩
      · obtain ⟨g0, eg⟩ := notTop t2
        have gl := G1.c.u u ul g0
        have cg := (G1.m.node ul).up
        rw [pqn pt g0] at cg
        rw [decide_eq_false t2] at ht2
        generalize hgg : (nd1 u).up = gg at *
        have HS := G1.c.lt_child ul eu
        have Suh := G1.c.Su ul (G1.s.ne hl) eu
        have HS2 := G1.c.lt_child gl eg
        have Sgu := G1.c.Su gl (G1.s.ne ul) eg
        go_wp2_with fail
        refine ht.mono ?_
        rintro e w1 ⟨rfl, rfl⟩
        go_wp2_with fail
        refine ht2.mono ?_
        rintro e w1 ⟨rfl, rfl⟩
        clear ht ht2
        go_wp2_with fail
        refine (settle_any _ o L live pt E nd1 hv1 T1 S P gg G1 gl).mono ?_
        rintro e w2 ⟨rfl, nd2, T2, G2, O2, S2⟩
        have S2 := S1.trans S2
        clear S1 cu cg
        go_wp2_with fail
        refine (settle_any _ o L live pt E nd2 hv1 T2 S P u G2 ul).mono ?_
        rintro e w3 ⟨rfl, nd3, T3, G3, O3, S3⟩
        have S3 := S2.trans S3
        clear S2
        go_wp2_with fail
        refine (settle_any _ o L live pt E nd3 hv1 T3 S P h G3 hl).mono ?_
        rintro e w4 ⟨rfl, nd4, T4, G4, O4, S4⟩
        have S4 := S3.trans S4
        obtain ⟨⟨q1, q2, q3, q4, q5⟩, r1, r2, r3⟩ := three_settles G1.c hl ul gl hu hgg eu eg O2 O3 O4 G2.c G3.c
        have OF4 := ((OF1.trans O2.off (Sgu.trans Suh)).trans O3.off Suh).trans O4.off rfl
        have hs1 := side_cl _ o L live pt E nd4 hv1 h G4.m G4.s G4.c.cl hl (by rw [q1]; exact u0)
        have hs2 := side_cl _ o L live pt E nd4 hv1 u G4.m G4.s G4.c.cl ul (by rw [r1]; exact g0)
        rw [q1] at hs1
        rw [r1] at hs2
        clear OF1 S3 O2 O3 O4 G2 G3 G1 t t2 hu hgg
        by_cases sm : (if (nd4 u).l = h then (0 : Int) else 1) = (if (nd4 gg).l = u then 0 else 1)
        · have HT1 := turn_any w4 o L live pt E nd4 hv1 T4 S P u gg G4 ul r1 gl r2 q4 r3
          have K : ∀ nd5 hv5 T5 w5, Gw w5 o L live pt E nd5 hv5 T5 S P → TurnOut live nd4 T4 S u gg nd5 T5 → Calls Try.prog 79 #[.pointer (some ⟨pt h, 0, none⟩)] w5 fun e w' => e = .returned (.tuple #[]) ∧ ∃ nd' hv' T', Gw w' o L live pt E nd' hv' T' S P ∧ ((T1 h).length < (T' h).length ∧ Off live nd T S h nd' T') ∧ Step (NL L) w5 o w' o := by
            intro nd5 hv5 T5 w5 G5 O5
            have eh : (nd5 u).l = h ∨ (nd5 u).r = h := by
              by_cases x : (nd4 u).l = h
              · rw [if_pos x] at sm
                have y : (nd4 gg).l = u := Classical.byContradiction fun y => by rw [if_neg y] at sm; simp at sm
                exact .inl (by rw [O5.kl y, x])
              · rw [if_neg x] at sm
                have y : (nd4 gg).l ≠ u := fun y => by rw [if_pos y] at sm; simp at sm
                exact .inr (by rw [O5.kr y]; exact q2.resolve_left x)
            refine (turn_any w5 o L live pt E nd5 hv5 T5 S P h u G5 hl (G5.c.up_of ul (G5.s.ne hl) eh) ul eh (by rw [O5.tw h hl, q3]) (by rw [O5.tw u ul, q4])).mono ?_
            rintro e w6 ⟨rfl, nd6, hv6, T6, G6, O6, S6⟩
            refine ⟨rfl, nd6, hv6, T6, G6, ⟨?_, (OF4.trans O5.off Suh).trans O6.off rfl⟩, S6⟩
            rw [O6.top, O5.top, q5]; omega
          have K' : Hid _ := K
          have sm2 : ((if (nd4 u).l = h then (0 : Int) else 1) == (if (nd4 gg).l = u then 0 else 1)) = true := by rw [sm]; simp
          generalize (if (nd4 u).l = h then (0 : Int) else 1) = sa at *
          generalize (if (nd4 gg).l = u then (0 : Int) else 1) = sb at *
          clear K G4 q1 q2 q3 q4 q5 r1 r2 r3
          go_wp2_with fail
          refine hs1.mono ?_
          rintro e w1 ⟨rfl, rfl⟩
          go_wp2_with fail
          refine hs2.mono ?_
          rintro e w1 ⟨rfl, rfl⟩
          clear hs1 hs2
          go_wp2_with fail
          refine HT1.mono ?_
          rintro e w5 ⟨rfl, nd5, hv5, T5, G5, O5, S5⟩
          have S5 := S4.trans S5
          clear HT1 S4
          go_wp2_with fail
          refine (K'.out nd5 hv5 T5 _ G5 O5).mono ?_
          rintro e w6 ⟨rfl, nd6, hv6, T6, G6, ⟨l2, OF6⟩, S6⟩
          have S6 := S5.trans S6
          have l1 := G6.c.lenS hl
          clear S5 G5 O5 K' HS HS2 eu eg OF4 Suh Sgu
          go_wp2
          go_roundg ((S h).length - (T6 h).length)
          case measure => omega
          case rel => exact ⟨nd6, hv6, T6, by omega, G6, OF6, S6⟩
        · have HT1 := turn_any w4 o L live pt E nd4 hv1 T4 S P h u G4 hl q1 ul q2 q3 q4
          have K : ∀ nd5 hv5 T5 w5, Gw w5 o L live pt E nd5 hv5 T5 S P → TurnOut live nd4 T4 S h u nd5 T5 → Calls Try.prog 79 #[.pointer (some ⟨pt h, 0, none⟩)] w5 fun e w' => e = .returned (.tuple #[]) ∧ ∃ nd' hv' T', Gw w' o L live pt E nd' hv' T' S P ∧ ((T1 h).length < (T' h).length ∧ Off live nd T S h nd' T') ∧ Step (NL L) w5 o w' o := by
            intro nd5 hv5 T5 w5 G5 O5
            have u5 := O5.up
            rw [r1] at u5
            have p1 := O5.pl
            have p2 := O5.pr
            rw [r1] at p1 p2
            have eh : (nd5 gg).l = h ∨ (nd5 gg).r = h := by
              rcases r2 with x | x
              · exact .inl (p1 gl x)
              · exact .inr (p2 gl x)
            refine (turn_any w5 o L live pt E nd5 hv5 T5 S P h gg G5 hl u5 gl eh (by rw [O5.tw h hl, q3]) (by rw [O5.tw gg gl, r3])).mono ?_
            rintro e w6 ⟨rfl, nd6, hv6, T6, G6, O6, S6⟩
            refine ⟨rfl, nd6, hv6, T6, G6, ⟨?_, (OF4.trans O5.off rfl).trans O6.off rfl⟩, S6⟩
            have := G5.c.lt_child gl eh
            rw [O5.top, q5] at this
            rw [O6.top]; omega
          have K' : Hid _ := K
          have sm2 : ((if (nd4 u).l = h then (0 : Int) else 1) == (if (nd4 gg).l = u then 0 else 1)) = false := by simp only [beq_eq_false_iff_ne, ne_eq]; exact sm
          have sm3 : decide ((if (nd4 u).l = h then (0 : Int) else 1) = (if (nd4 gg).l = u then 0 else 1)) = false := decide_eq_false sm
          generalize (if (nd4 u).l = h then (0 : Int) else 1) = sa at *
          generalize (if (nd4 gg).l = u then (0 : Int) else 1) = sb at *
          clear K G4 q1 q2 q3 q4 q5 r1 r2 r3
          go_wp2_with fail
          refine hs1.mono ?_
          rintro e w1 ⟨rfl, rfl⟩
          go_wp2_with fail
          refine hs2.mono ?_
          rintro e w1 ⟨rfl, rfl⟩
          clear hs1 hs2
          go_wp2_with fail
          refine HT1.mono ?_
          rintro e w5 ⟨rfl, nd5, hv5, T5, G5, O5, S5⟩
          have S5 := S4.trans S5
          clear HT1 S4
          go_wp2_with fail
          refine (K'.out nd5 hv5 T5 _ G5 O5).mono ?_
          rintro e w6 ⟨rfl, nd6, hv6, T6, G6, ⟨l2, OF6⟩, S6⟩
          have S6 := S5.trans S6
          have l1 := G6.c.lenS hl
          clear S5 G5 O5 K' HS HS2 eu eg OF4 Suh Sgu
          go_wp2
          go_roundg ((S h).length - (T6 h).length)
          case measure => omega
          case rel => exact ⟨nd6, hv6, T6, by omega, G6, OF6, S6⟩

end Go.Proofs.Ytffmlffhiimmdaa
