/- Link. -/
import Derived.Test.YtffmlffhiimmdaaLinkM
namespace Go.Proofs.Ytffmlffhiimmdaa
open Go.ChangeShapes Go.WideShapes Go.ChangeAt Go.RowKit Go.Maps
set_option linter.unusedVariables false

theorem edF_some {ed : Nat → Option Ed} {pt : Nat → Nat} {i : Nat} (h : (ed i).isSome = true) : edF ed pt (i : Nat) = some (pt (2 * i + 2)) := by
  unfold edF; rw [if_neg (by omega)]; simp [h]
theorem edF_none {ed : Nat → Option Ed} {pt : Nat → Nat} {i : Nat} (h : ed i = none) : edF ed pt (i : Nat) = none := by
  unfold edF; rw [if_neg (by omega)]; simp [h]

/-- Trees with a new node: it stands alone. -/
def Fa (w : World) (o : Nat → Nat) (L : Nat) (live : Nat → Prop) (pt : Nat → Nat) (E : Nat → Ed) (R : Nat → List Nat) (e : Nat) : Prop :=
  ∃ nd hv T S P, Gw w o L live pt E nd hv T S P ∧ Rc live S P R ∧ Rt live R ∧ nd e = ⟨0, 0, 0, false⟩ ∧ T e = [e] ∧ S e = [e] ∧ P e = 0
theorem Fg.add2 {I : Nat → Prop} {w w' : World} {o o' : Nat → Nat} {L : Nat} {live : Nat → Prop} {pt : Nat → Nat} {E E' : Nat → Ed} {R : Nat → List Nat} {e b : Nat} (F : Fg w o L live pt E R) (ne : ¬ live e) (he : 1 ≤ e ∧ e < 3000000000000) (s : Step I w o w' o') (hi : ∀ k, NL L k → ¬ I k)
    (hE : ∀ k, live k → E' k = E k) (B : Blk w' o' (L + 5 + e) b (.cells (ncells (upd pt e b) E' ⟨0, 0, 0, false⟩ (own e) e) (ntype e) (0, 0))) :
    Fa w' o' L (addL live e) (upd pt e b) E' (upd R e [e]) e := by
  obtain ⟨nd, hv, T, S, P, G, hR, hT⟩ := F
  have e0 : e ≠ 0 := by omega
  exact ⟨_, _, _, _, _, ⟨G.m.add G.s G.c.cl (G.v.hc G.c) ne e0 s hi hE B, fun k lk => lk.elim (G.s k) (fun x => x ▸ he), G.c.add G.s ne e0, G.v.add ne e0 hE G.c⟩, Rc.add G.c hR ne, hT.add ne, upd_same _ _ _, upd_same _ _ _, upd_same _ _ _, upd_same _ _ _⟩

theorem Fg.congr {w : World} {o : Nat → Nat} {L : Nat} {live : Nat → Prop} {pt : Nat → Nat} {E : Nat → Ed} {R R' : Nat → List Nat} (F : Fg w o L live pt E R) (e : ∀ k, live k → R' k = R k) : Fg w o L live pt E R' := by
  obtain ⟨nd, hv, T, S, P, G, hR, hT⟩ := F
  refine ⟨nd, hv, T, S, P, G, fun h lh A y B q => ?_, ⟨fun k lk => ?_, fun k lk y hy => ?_, fun k lk y hy => ?_, fun k lk => ?_⟩⟩
  · rw [e y (G.c.mem h lh y (by rw [q]; simp)).1, hR h lh A y B q]
    by_cases p0 : P h = 0
    · rw [if_pos p0, if_pos p0]
    · rw [if_neg p0, if_neg p0, e _ (G.c.pl h lh p0)]
  · rw [e k lk]; exact hT.last k lk
  · rw [e k lk] at hy; exact hT.mem k lk y hy
  · rw [e k lk] at hy ⊢; rw [e y (hT.mem k lk y hy)]; exact hT.pre k lk y hy
  · rw [e k lk]; exact hT.nodup k lk
theorem link_same (w : World) (o : Nat → Nat) (L p n : Nat) (ed : Nat → Option Ed) (R : Nat → List Nat) (m u v i : Nat) (wt : Int) (X : Tx w o L p n ed R m) (hu : u < n) (hv : v < n) (hi : i ≤ 1099511627776) (hw : -1099511627776 ≤ wt ∧ wt ≤ 1099511627776) (hd : (R (2 * u + 1)).head? = (R (2 * v + 1)).head?) (ni : ed i = none) :
    Calls Try.prog 56 #[.pointer (some ⟨p, 0, none⟩), .int .i64 u, .int .i64 v, .int .i64 (i : Nat), .int .i64 wt] w fun e w' => e = .returned (.int .i64 51) ∧ Tx w' o L p n ed R m ∧ Step (TL L) w o w' o := by
  have hc := same_in w o L p n ed R m u v X hu hv
  rw [decide_eq_true hd] at hc
  have d1 : decide ((i : Int) < 0) = false := decide_eq_false (by omega)
  have d2 : decide ((1099511627776 : Int) < (i : Int)) = false := decide_eq_false (by omega)
  have d3 : decide (wt < (-1099511627776 : Int)) = false := decide_eq_false (by omega)
  have d4 : decide ((1099511627776 : Int) < wt) = false := decide_eq_false (by omega)
  have i64 : In64 (i : Nat) := ⟨by omega, by omega⟩
  clear X
  go_enter Try.func56, Try.ntmps56
  go_wp2_with fail
  refine hc.mono ?_
  rintro e w1 ⟨rfl, X1, s1⟩
  clear hc
  have X2 := X1
  obtain ⟨X0, pt, bv, cap, bm, TB, F⟩ := X1
  obtain ⟨c0, c1, _⟩ := TB.cells
  have hl := TB.2.2.look (i : Nat) i64
  rw [edF_none ni] at hl
  simp only [ptrV] at hl
  clear TB F
  go_wp2
  go_ret
  exact ⟨rfl, X2, s1⟩

set_option maxRecDepth 100000 in
set_option maxHeartbeats 4000000 in
theorem link_in (w : World) (o : Nat → Nat) (L p n : Nat) (ed : Nat → Option Ed) (R : Nat → List Nat) (m u v i : Nat) (wt : Int) (X : Tx w o L p n ed R m) (hu : u < n) (hv : v < n) (hi : i ≤ 1099511627776) (hw : -1099511627776 ≤ wt ∧ wt ≤ 1099511627776) (hd : (R (2 * u + 1)).head? ≠ (R (2 * v + 1)).head?) (ni : ed i = none) (hm : m ≤ 100000) :
    Calls Try.prog 56 #[.pointer (some ⟨p, 0, none⟩), .int .i64 u, .int .i64 v, .int .i64 (i : Nat), .int .i64 wt] w fun e w' => e = .returned (.int .i64 0) ∧ ∃ o', Tx w' o' L p n (upd ed i (some ⟨u, v, wt⟩)) (linkR R (2 * u + 1) (2 * v + 1) (2 * i + 2)) (m + 1) ∧ Step (TL L) w o w' o' := by
  have hc := same_in w o L p n ed R m u v X hu hv
  rw [decide_eq_false hd] at hc
  have d1 : decide ((i : Int) < 0) = false := decide_eq_false (by omega)
  have d2 : decide ((1099511627776 : Int) < (i : Int)) = false := decide_eq_false (by omega)
  have d3 : decide (wt < (-1099511627776 : Int)) = false := decide_eq_false (by omega)
  have d4 : decide ((1099511627776 : Int) < wt) = false := decide_eq_false (by omega)
  have i64 : In64 (i : Nat) := ⟨by omega, by omega⟩
  have bu : (u : Int) < (n : Int) := by omega
  have bv1 : (v : Int) < (n : Int) := by omega
  clear X
  go_enter Try.func56, Try.ntmps56
  go_wp2_with fail
  refine hc.mono ?_
  rintro e w1 ⟨rfl, X1, s1⟩
  clear hc
  obtain ⟨X0, pt, bv, cap, bm, TB, F⟩ := X1
  obtain ⟨c0, c1, _⟩ := TB.cells
  have hl := TB.2.2.look (i : Nat) i64
  rw [edF_none ni] at hl
  simp only [ptrV] at hl
  have hne := newEdge_any w1 o (L + 5 + (2 * i + 2)) i u v wt
  go_wp2_with fail
  refine hne.mono ?_
  rintro e w2 ⟨b, o2, rfl, B2, s2⟩
  have TB2 := TB.step s2 (fun _ _ _ => id)
  obtain ⟨c20, c21, _⟩ := TB2.cells
  obtain ⟨w3, hput, M3, s3⟩ := TB2.2.2.put (i : Nat) b i64 hm
  have s23 : Step (fun k => k = L + 2) w1 o w3 o2 := (s2.mono fun _ h => h.elim).trans s3
  have B3 := B2.step s3 (by omega)
  clear hne hl
  go_wp2_with fail
  have TB3 : Tb w3 o2 L p n bv cap bm (m + 1) (fun j => if j = (i : Nat) then some b else edF ed pt j) (vps pt n) := ⟨TB2.1.step s3 (by omega), TB2.2.1.step s3 (by omega), M3⟩
  have ne : ¬ liveN n ed (2 * i + 2) := fun h => by have := liveN_e.1 h; rw [ni] at this; simp at this
  have lu : liveN n ed (2 * u + 1) := liveN_v hu
  have lv : liveN n ed (2 * v + 1) := liveN_v hv
  have hT := F.rt
  obtain ⟨qt, hqt⟩ : ∃ qt, qt = upd pt (2 * i + 2) b := ⟨_, rfl⟩
  have qb : qt (2 * i + 2) = b := by rw [hqt, upd_same]
  have qv : ∀ x, qt (2 * x + 1) = pt (2 * x + 1) := fun x => by rw [hqt, upd_other _ _ (by omega)]
  have qe : ∀ x, x ≠ i → qt (2 * x + 2) = pt (2 * x + 2) := fun x hx => by rw [hqt, upd_other _ _ (by omega)]
  have eL : addL (liveN n ed) (2 * i + 2) = liveN n (upd ed i (some ⟨u, v, wt⟩)) := (liveN_link _ _).symm
  have F3 : Fa w3 o2 L (addL (liveN n ed) (2 * i + 2)) qt (edE (upd ed i (some ⟨u, v, wt⟩))) (upd R (2 * i + 2) [2 * i + 2]) (2 * i + 2) := by
    have := Fg.add2 (e := 2 * i + 2) (b := b) (E' := edE (upd ed i (some ⟨u, v, wt⟩))) F ne (by omega) s23 (fun k hk x => by have := hk.1; omega) (fun k lk => ?_) ?_
    · rw [hqt]; exact this
    · rcases live_cases lk with ⟨j, x, rfl, hx⟩ | ⟨y, rfl, _⟩
      · have : j ≠ i := fun z => by rw [z, ni] at hx; simp at hx
        rw [edE_e, edE_e, upd_other _ _ this]
      · unfold edE; rw [if_neg (by omega), if_neg (by omega)]
    · have : ncells (upd pt (2 * i + 2) b) (edE (upd ed i (some ⟨u, v, wt⟩))) ⟨0, 0, 0, false⟩ (own (2 * i + 2)) (2 * i + 2) = #[.pointer none, .pointer none, .pointer none, .bool false, .pointer none, .pointer (some ⟨b, 0, none⟩), .pointer (some ⟨b, 0, none⟩), .int .i64 (i : Nat), .int .i64 (u : Nat), .int .i64 (v : Nat), .int .i64 wt] := by
        have e1 : own (2 * i + 2) = 2 * i + 2 := by unfold own; rw [if_pos (by omega)]
        have e2 : ownV (2 * i + 2) = 0 := by unfold ownV; rw [if_pos (by omega)]
        have e3 : (2 * i + 2 - 2) / 2 = i := by omega
        unfold ncells
        rw [if_pos (by omega), e1, e2, e3, pqn _ (show 2 * i + 2 ≠ 0 by omega), upd_same, edE_e, upd_same]; rfl
      have e4 : ntype (2 * i + 2) = 92 := by unfold ntype; rw [if_pos (by omega)]
      rw [this, e4]; exact B3
  have eV : vps pt n = vps qt n := by unfold vps; simp only [qv]
  have TB4 : Tb w3 o2 L p n bv cap bm (m + 1) (edF (upd ed i (some ⟨u, v, wt⟩)) qt) (vps qt n) := by
    rw [← eV]
    refine ⟨TB3.1, TB3.2.1, TB3.2.2.congr fun j _ => ?_⟩
    unfold edF
    by_cases q : j = (i : Nat)
    · rw [if_pos q, q, if_neg (by omega)]
      simp [upd_same, qb]
    · rw [if_neg q]
      by_cases j0 : j < 0
      · rw [if_pos j0, if_pos j0]
      · rw [if_neg j0, if_neg j0]
        have q2 : j.toNat ≠ i := by omega
        rw [upd_other _ _ q2, qe _ q2]
  rw [← qb]
  clear TB TB2 TB3 M3 B2 B3 F s2 s3 c0 c1 c20 c21 eV qe hqt qb qv
  obtain ⟨c0, c1, _⟩ := TB4.cells
  have cu := TB4.vert hu
  have cv := TB4.vert hv
  have s13 : Step (TL L) w o w3 o2 := s1.trans (s23.mono fun k hk => ⟨by omega, by omega⟩)
  clear s1 s23
  go_quiet (fail)
  rename_i nq
  have TB5 := TB4.step ((Step.refl (fun _ => False) w3 o2).drewN nq) (fun _ _ _ => id)
  have s14 : Step (TL L) w o (w3.drewN nq) o2 := s13.drewN nq
  obtain ⟨nd4, hv4, T4, S4, P4, G4, hR4, hT4, n4, t4, se4, pe4⟩ := F3
  have G4 := G4.step ((Step.refl (fun _ => False) w3 o2).drewN nq) (fun _ _ => id)
  have a_u : addL (liveN n ed) (2 * i + 2) (2 * u + 1) := .inl lu
  have a_v : addL (liveN n ed) (2 * i + 2) (2 * v + 1) := .inl lv
  have a_e : addL (liveN n ed) (2 * i + 2) (2 * i + 2) := .inr rfl
  have hev := evert_raw _ o2 L _ qt _ _ nd4 hv4 T4 S4 P4 (2 * u + 1) G4 hR4 hT4 a_u
  have old : ∀ k, liveN n ed k → k ≠ 2 * i + 2 := fun k lk q => ne (q ▸ lk)
  have he : ∀ k, liveN n ed k → (R k).head? ≠ some (2 * i + 2) := fun k lk q => by
    obtain ⟨r, h1, h2, _⟩ := hT.head lk
    rw [q] at h1; simp at h1; exact ne (h1 ▸ h2)
  clear TB4 s13
  go_wp2_with fail
  refine hev.mono ?_
  rintro e w5 ⟨rfl, nd5, hv5, T5, S5, P5, G5, ⟨hR5, p5, t5, u5, ot5⟩, s5⟩
  have hTb := hT4.turn a_u
  -- what hangs on nothing: the new node, and u
  obtain ⟨n5, te5, se5, pe5⟩ := ot5 (2 * i + 2) a_e (by
    rw [upd_same, upd_other _ _ (old _ lu)]; exact fun q => he _ lu q.symm)
  rw [n4] at n5; rw [t4] at te5; rw [se4] at se5; rw [pe4] at pe5
  have ue : 2 * u + 1 ≠ 2 * i + 2 := by omega
  have ve : 2 * v + 1 ≠ 2 * i + 2 := by omega
  obtain ⟨tu5, _⟩ := G5.c.top _ a_u t5
  have sne : S5 (2 * i + 2) ≠ S5 (2 * u + 1) := fun q => by
    have := G5.c.self _ a_u
    rw [← q, se5] at this; simp at this; omega
  have rb_e : turnR (upd R (2 * i + 2) [2 * i + 2]) (2 * u + 1) (2 * i + 2) = [2 * i + 2] := by
    have o2 : ¬ OneT (upd R (2 * i + 2) [2 * i + 2]) (2 * i + 2) (2 * u + 1) := by unfold OneT; rw [upd_same, upd_other _ _ ue]; exact fun q => he _ lu q.symm
    rw [turnR_out o2, upd_same]
  have rb_u := hT4.turn_n a_u
  have hd1 : (turnR (upd R (2 * i + 2) [2 * i + 2]) (2 * u + 1) (2 * i + 2)).head? ≠ (turnR (upd R (2 * i + 2) [2 * i + 2]) (2 * u + 1) (2 * u + 1)).head? := by
    rw [rb_e, rb_u]; simp; omega
  have H6 := G5.c.rehang (x := 2 * i + 2) a_u tu5 (fun _ => ⟨a_e, sne⟩)
  have hR6 := Rc.rehang G5.c hR5 hTb a_u p5 a_e hd1
  have hT6 := hTb.rehang a_u a_e hd1
  obtain ⟨F6, z6⟩ := G5.m.set_up G5.s a_u (2 * i + 2)
  have c5 := (G5.m.node a_u).up
  have f5 := (G5.m.node a_u).fz
  have G6 : Gw _ o2 L (addL (liveN n ed) (2 * i + 2)) qt (edE (upd ed i (some ⟨u, v, wt⟩))) (hungN nd5 (2 * u + 1) (2 * i + 2)) hv5 T5 S5 (hungP S5 P5 (2 * u + 1) (2 * i + 2)) := ⟨F6, G5.s, H6, G5.v⟩
  have hex := expose_any _ o2 L _ qt _ _ _ _ _ _ _ (2 * v + 1) G6 hR6 a_v
  have s16 := s14.trans ((s5.trans z6).mono fun k hk => hk.tl)
  have TB6 := TB5.step (s5.trans z6) (fun k => NL.tb)
  rw [pqn qt (show 2 * i + 2 ≠ 0 by omega)] at hex
  clear hev F6 c0 c1 cu cv
  go_wp2_with fail
  refine hex.mono ?_
  rintro e w7 ⟨rfl, nd7, hv7, T7, S7, P7, G7, ⟨hR7, s7, p7, t7, tw7, ot7⟩, sx7⟩
  have rc_e : hungR (turnR (upd R (2 * i + 2) [2 * i + 2]) (2 * u + 1)) (2 * u + 1) (2 * i + 2) (2 * i + 2) = [2 * i + 2] := by
    unfold hungR; rw [if_neg hd1, rb_e]
  have rb_v : turnR (upd R (2 * i + 2) [2 * i + 2]) (2 * u + 1) (2 * v + 1) = R (2 * v + 1) := by
    have o2 : ¬ OneT (upd R (2 * i + 2) [2 * i + 2]) (2 * v + 1) (2 * u + 1) := by unfold OneT; rw [upd_other _ _ ve, upd_other _ _ ue]; exact Ne.symm hd
    rw [turnR_out o2, upd_other _ _ ve]
  have rc_v : hungR (turnR (upd R (2 * i + 2) [2 * i + 2]) (2 * u + 1)) (2 * u + 1) (2 * i + 2) (2 * v + 1) = R (2 * v + 1) := by
    unfold hungR
    rw [rb_v, rb_u, if_neg]
    intro q
    have q : (R (2 * v + 1)).head? = some (2 * u + 1) := q
    have m2 : 2 * u + 1 ∈ R (2 * v + 1) := by
      cases h : R (2 * v + 1) with
      | nil => rw [h] at q; simp at q
      | cons c C => rw [h] at q; simp at q; rw [q]; simp
    exact hd (hT.head_of lv m2)
  have hd2 : (hungR (turnR (upd R (2 * i + 2) [2 * i + 2]) (2 * u + 1)) (2 * u + 1) (2 * i + 2) (2 * v + 1)).head? ≠ (hungR (turnR (upd R (2 * i + 2) [2 * i + 2]) (2 * u + 1)) (2 * u + 1) (2 * i + 2) (2 * i + 2)).head? := by
    rw [rc_e, rc_v]; exact he _ lv
  obtain ⟨n7, te7, se7, pe7⟩ := ot7 (2 * i + 2) a_e (Ne.symm hd2)
  rw [te5] at te7
  rw [se5] at se7
  have pe7' : P7 (2 * i + 2) = 0 := by
    rw [pe7]; unfold hungP; rw [if_neg, pe5]
    exact fun mm => sne ((G5.c.mem _ a_u _ mm).2.1)
  have H8 := G7.c.rehang (x := 2 * v + 1) a_e (by rw [te7, se7]) (fun _ => ⟨a_v, fun q => by
    have := G7.c.self _ a_v
    rw [q, se7] at this; simp at this; omega⟩)
  have hR8 := Rc.rehang G7.c hR7 hT6 a_e pe7' a_v hd2
  have hT8 := hT6.rehang a_e a_v hd2
  obtain ⟨F8, z8⟩ := G7.m.set_up G7.s a_e (2 * v + 1)
  have c7 := (G7.m.node a_e).up
  have f7 := (G7.m.node a_e).fz
  have G8 : Gw _ o2 L (addL (liveN n ed) (2 * i + 2)) qt (edE (upd ed i (some ⟨u, v, wt⟩))) (hungN nd7 (2 * i + 2) (2 * v + 1)) hv7 T7 S7 (hungP S7 P7 (2 * i + 2) (2 * v + 1)) := ⟨F8, G7.s, H8, G7.v⟩
  have s18 := s16.trans ((sx7.trans z8).mono fun k hk => hk.tl)
  have TB8 := TB6.step (sx7.trans z8) (fun k => NL.tb)
  have F9 : Fg _ o2 L (addL (liveN n ed) (2 * i + 2)) qt (edE (upd ed i (some ⟨u, v, wt⟩))) _ := ⟨_, _, _, _, _, G8, hR8, hT8⟩
  have F10 := F9.congr (R' := linkR R (2 * u + 1) (2 * v + 1) (2 * i + 2)) (fun k lk => (link_eq hT lu lv ne hd lk).symm)
  rw [eL] at F10
  have Y : 1 ≤ n ∧ n ≤ 64 ∧ EdOk n (upd ed i (some ⟨u, v, wt⟩)) ∧ Alt n (upd ed i (some ⟨u, v, wt⟩)) (linkR R (2 * u + 1) (2 * v + 1) (2 * i + 2)) := by
    refine ⟨X0.1, X0.2.1, fun j x hx => ?_, X0.2.2.2.link X0.2.2.1 hT hu hv ni hd⟩
    by_cases q : j = i
    · subst q
      rw [upd_same] at hx
      simp at hx
      subst hx
      exact ⟨hi, hu, hv, fun z => hd (by show _ = _; rw [show u = v from z]), hw⟩
    · rw [upd_other _ _ q] at hx; exact X0.2.2.1 j x hx
  rw [pqn qt (show 2 * v + 1 ≠ 0 by omega)] at F10 TB8 s18
  clear hex G5 G6 G7 G8 H6 H8 hR5 hR6 hR7 hR8 F8 F9 TB6 TB5 s16 s14 s5 z6 sx7 z8
  go_wp2
  go_ret
  exact ⟨rfl, o2, ⟨Y, qt, bv, cap, bm, TB8, F10⟩, s18⟩

end Go.Proofs.Ytffmlffhiimmdaa
