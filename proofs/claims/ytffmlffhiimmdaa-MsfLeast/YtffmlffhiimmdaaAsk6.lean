/- What Trees tell: is there such a vertex; the root; are two of one tree. -/
import Derived.Test.YtffmlffhiimmdaaNew5
namespace Go.Proofs.Ytffmlffhiimmdaa
open Go.ChangeShapes Go.WideShapes Go.ChangeAt Go.RowKit Go.Maps
set_option linter.unusedVariables false

theorem Fg.eql {w : World} {o : Nat → Nat} {L : Nat} {live : Nat → Prop} {pt : Nat → Nat} {E : Nat → Ed} {R : Nat → List Nat} (F : Fg w o L live pt E R) {a b : Nat} (la : live a) (lb : live b) :
    (binOp .eql 87 (.pointer (some ⟨pt a, 0, none⟩)) (.pointer (some ⟨pt b, 0, none⟩))).run Try.prog w = .ok (.bool (decide (a = b))) w := by
  obtain ⟨nd, hv, T, S, P, G, hR, hT⟩ := F
  have := G.m.eql G.s.nz (a := a) lb (fun _ => la)
  rwa [pqn pt (G.s.ne la)] at this
theorem Fg.vx {w : World} {o : Nat → Nat} {L : Nat} {live : Nat → Prop} {pt : Nat → Nat} {E : Nat → Ed} {R : Nat → List Nat} (F : Fg w o L live pt E R) {v : Nat} (lv : live (2 * v + 1)) :
    w.cell? ⟨pt (2 * v + 1), 4, none⟩ = some (.pointer (some ⟨pt (2 * v + 1), 0, none⟩)) ∧ w.cell? ⟨pt (2 * v + 1), 7, none⟩ = some (.int .i64 (v : Nat)) := by
  obtain ⟨nd, hv, T, S, P, G, hR, hT⟩ := F
  have a := (G.m.node lv).vx
  have e1 : ownV (2 * v + 1) = 2 * v + 1 := by unfold ownV; rw [if_neg (by omega)]
  rw [e1, pqn pt (by omega)] at a
  have b := G.m.vertex lv (by omega)
  have e2 : (2 * v + 1 - 1) / 2 = v := by omega
  rw [e2] at b
  exact ⟨a, b⟩
/-- A vertex' root is a vertex. -/
theorem Alt.root {n : Nat} {ed : Nat → Option Ed} {R : Nat → List Nat} (A : Alt n ed R) (ok : EdOk n ed) (hT : Rt (liveN n ed) R) {v r : Nat} (hv : v < n) (e : (R (2 * v + 1)).head? = some r) : ∃ x, x < n ∧ r = 2 * x + 1 ∧ R r = [r] := by
  obtain ⟨q, h1, h2, h3⟩ := hT.head (liveN_v hv)
  rw [e] at h1
  simp at h1
  subst h1
  by_cases ev : r % 2 = 0
  · exfalso
    obtain ⟨i, rfl⟩ : ∃ i, r = 2 * i + 2 := by
      unfold liveN at h2; rw [if_pos ev] at h2
      exact ⟨(r - 2) / 2, by omega⟩
    obtain ⟨x, hx⟩ := Option.isSome_iff_exists.1 (liveN_e.1 h2)
    obtain ⟨a, b, ab, q1, _⟩ := A.e i x hx
    obtain ⟨_, o1, o2, _⟩ := ok i x hx
    rw [h3] at q1
    have := congrArg List.length q1
    simp at this
    obtain ⟨p, hp⟩ := hT.last _ (liveN_v (ed := ed) (show a < n by omega))
    rw [this] at hp; simp at hp
  · refine ⟨(r - 1) / 2, ?_, by omega, h3⟩
    unfold liveN at h2; rw [if_neg ev] at h2; omega

theorem has_in (w : World) (L p n bv cap bm m : Nat) (o : Nat → Nat) (f : Int → Option Nat) (vs : List Value) (v : Nat) (TB : Tb w o L p n bv cap bm m f vs) (hv : v < n) :
    Calls Try.prog 87 #[.pointer (some ⟨p, 0, none⟩), .int .i64 v] w fun e w' => e = .returned (.bool true) ∧ w' = w := by
  have c := TB.cells.1
  have h1 : (0 : Int) ≤ (v : Int) := by omega
  have h2 : (v : Int) < (n : Int) := by omega
  clear TB
  go_enter Try.func87, Try.ntmps87
  go_wp2
  go_ret
  exact ⟨rfl, rfl⟩

set_option maxRecDepth 100000 in
set_option maxHeartbeats 4000000 in
theorem same_nl (w : World) (o : Nat → Nat) (L p n : Nat) (ed : Nat → Option Ed) (R : Nat → List Nat) (m u v : Nat) (X : Tx w o L p n ed R m) (hu : u < n) (hv : v < n) :
    Calls Try.prog 74 #[.pointer (some ⟨p, 0, none⟩), .int .i64 u, .int .i64 v] w fun e w' => e = .returned (.tuple #[.bool (decide ((R (2 * u + 1)).head? = (R (2 * v + 1)).head?)), .int .i64 0]) ∧ Tx w' o L p n ed R m ∧ Step (NL L) w o w' o := by
  obtain ⟨X0, pt, bv, cap, bm, TB, F⟩ := X
  have hu1 := has_in w L p n bv cap bm m o _ _ u TB hu
  have hv1 := has_in w L p n bv cap bm m o _ _ v TB hv
  have sd : Step (NL L) w o w.drew o := (Step.refl _ _ _).drew
  have HC : Hid (∀ wx, Step (NL L) w o wx o → wx.cell? ⟨p, 0, none⟩ = some (.slice (some ⟨bv, 0, none⟩) n cap) ∧ wx.cell? ⟨bv, u, none⟩ = some (.pointer (some ⟨pt (2 * u + 1), 0, none⟩)) ∧ wx.cell? ⟨bv, v, none⟩ = some (.pointer (some ⟨pt (2 * v + 1), 0, none⟩))) := fun wx s => by
    have T := TB.step s (fun k => NL.tb)
    exact ⟨T.cells.1, T.vert hu, T.vert hv⟩
  have k0 := HC.out _ sd
  have HA : Hid (Calls Try.prog 49 #[.pointer (some ⟨pt (2 * u + 1), 0, none⟩)] w.drew fun e w' => ∃ r, e = .returned (.pointer (some ⟨pt r, 0, none⟩)) ∧ ((R (2 * u + 1)).head? = some r ∧ liveN n ed r) ∧ Fg w' o L (liveN n ed) pt (edE ed) R ∧ Step (NL L) w o w' o) := by
    refine (root_fg w.drew o L _ pt _ R (2 * u + 1) (F.step ((Step.refl (fun _ => False) _ _).drew) (fun _ _ => id)) (liveN_v hu)).mono ?_
    rintro e w' ⟨r, q1, q2, q3, q4⟩
    exact ⟨r, q1, q2, q3, sd.trans q4⟩
  have HB : Hid (∀ wx r, Fg wx o L (liveN n ed) pt (edE ed) R → Step (NL L) w o wx o → liveN n ed r → Calls Try.prog 49 #[.pointer (some ⟨pt (2 * v + 1), 0, none⟩)] wx fun e w' => ∃ r2, e = .returned (.pointer (some ⟨pt r2, 0, none⟩)) ∧ (R (2 * v + 1)).head? = some r2 ∧ (binOp .eql 87 (.pointer (some ⟨pt r, 0, none⟩)) (.pointer (some ⟨pt r2, 0, none⟩))).run Try.prog w' = .ok (.bool (decide (r = r2))) w' ∧ Fg w' o L (liveN n ed) pt (edE ed) R ∧ Step (NL L) w o w' o) := fun wx r Fx s lr => by
    refine (root_fg wx o L _ pt _ R (2 * v + 1) Fx (liveN_v hv)).mono ?_
    rintro e w' ⟨r2, q1, q2, q3, q4⟩
    exact ⟨r2, q1, q2.1, q3.eql lr q2.2, q3, s.trans q4⟩
  have bu : (u : Int) < (n : Int) := by omega
  have bv1 : (v : Int) < (n : Int) := by omega
  go_enter Try.func74, Try.ntmps74
  go_wp2_with fail
  refine hu1.mono ?_
  rintro e w1 ⟨rfl, rfl⟩
  go_wp2_with fail
  refine hv1.mono ?_
  rintro e w1 ⟨rfl, rfl⟩
  clear hu1 hv1
  go_wp2_with fail
  go_region_held (fun wx => wx.cell? ⟨p, 0, none⟩ = some (.slice (some ⟨bv, 0, none⟩) n cap) ∧ wx.cell? ⟨bv, u, none⟩ = some (.pointer (some ⟨pt (2 * u + 1), 0, none⟩)) ∧ wx.cell? ⟨bv, v, none⟩ = some (.pointer (some ⟨pt (2 * v + 1), 0, none⟩))) (first | (with_reducible exact k2) | (with_reducible exact k1) | (with_reducible exact k0)) ((first
    | (go_at_call 49; refine (HB.out _ r1 F1 s1 hr1.2).mono ?_; rintro e w2 ⟨r2, rfl, hr2, he2, F2, s2⟩; have k2 := HC.out _ s2)
    | (go_at_call 49; refine HA.out.mono ?_; rintro e w1 ⟨r1, rfl, hr1, F1, s1⟩; have k1 := HC.out _ s1)))
  all_goals
    have R1 : Tx w2 o L p n ed R m := ⟨X0, pt, bv, cap, bm, TB.step s2 (fun k => NL.tb), F2⟩
    have R2 : decide (r1 = r2) = decide ((R (2 * u + 1)).head? = (R (2 * v + 1)).head?) := by rw [hr1.1, hr2]; simp
    have R3 := s2
    clear HA HB HC k0 k1 k2 F1 F2 s1 s2 TB F he2
    go_wp2
    go_ret2
    exact ⟨by rw [← R2]; rfl, R1, R3⟩

theorem same_in (w : World) (o : Nat → Nat) (L p n : Nat) (ed : Nat → Option Ed) (R : Nat → List Nat) (m u v : Nat) (X : Tx w o L p n ed R m) (hu : u < n) (hv : v < n) :
    Calls Try.prog 74 #[.pointer (some ⟨p, 0, none⟩), .int .i64 u, .int .i64 v] w fun e w' => e = .returned (.tuple #[.bool (decide ((R (2 * u + 1)).head? = (R (2 * v + 1)).head?)), .int .i64 0]) ∧ Tx w' o L p n ed R m ∧ Step (TL L) w o w' o := by
  refine (same_nl w o L p n ed R m u v X hu hv).mono ?_
  rintro e w' ⟨a, b, c⟩
  exact ⟨a, b, c.mono fun k hk => hk.tl⟩

theorem joined_nl (w : World) (o : Nat → Nat) (L p n : Nat) (ed : Nat → Option Ed) (R : Nat → List Nat) (m u v : Nat) (X : Tx w o L p n ed R m) (hu : u < n) (hv : v < n) :
    Calls Try.prog 53 #[.pointer (some ⟨p, 0, none⟩), .int .i64 u, .int .i64 v] w fun e w' => e = .returned (.int .i64 (if (R (2 * u + 1)).head? = (R (2 * v + 1)).head? then 0 else 54)) ∧ Tx w' o L p n ed R m ∧ Step (NL L) w o w' o := by
  have hc := same_nl w o L p n ed R m u v X hu hv
  by_cases q : (R (2 * u + 1)).head? = (R (2 * v + 1)).head?
  · rw [decide_eq_true q] at hc
    rw [if_pos q]
    clear q X
    go_enter Try.func53, Try.ntmps53
    go_wp2_with fail
    refine hc.mono ?_
    rintro e w2 ⟨rfl, X2, s2⟩
    clear hc
    go_wp2
    go_ret
    exact ⟨rfl, X2, s2⟩
  · rw [decide_eq_false q] at hc
    rw [if_neg q]
    clear q X
    go_enter Try.func53, Try.ntmps53
    go_wp2_with fail
    refine hc.mono ?_
    rintro e w2 ⟨rfl, X2, s2⟩
    clear hc
    go_wp2
    go_ret
    exact ⟨rfl, X2, s2⟩

theorem joined_in (w : World) (o : Nat → Nat) (L p n : Nat) (ed : Nat → Option Ed) (R : Nat → List Nat) (m u v : Nat) (X : Tx w o L p n ed R m) (hu : u < n) (hv : v < n) :
    Calls Try.prog 53 #[.pointer (some ⟨p, 0, none⟩), .int .i64 u, .int .i64 v] w fun e w' => e = .returned (.int .i64 (if (R (2 * u + 1)).head? = (R (2 * v + 1)).head? then 0 else 54)) ∧ Tx w' o L p n ed R m ∧ Step (TL L) w o w' o := by
  refine (joined_nl w o L p n ed R m u v X hu hv).mono ?_
  rintro e w' ⟨a, b, c⟩
  exact ⟨a, b, c.mono fun k hk => hk.tl⟩

end Go.Proofs.Ytffmlffhiimmdaa
