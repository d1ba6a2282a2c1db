/- Cut. -/
import Derived.Test.YtffmlffhiimmdaaCutM
namespace Go.Proofs.Ytffmlffhiimmdaa
open Go.ChangeShapes Go.WideShapes Go.ChangeAt Go.RowKit Go.Maps
set_option linter.unusedVariables false

theorem Fg.neq {w : World} {o : Nat → Nat} {L : Nat} {live : Nat → Prop} {pt : Nat → Nat} {E : Nat → Ed} {R : Nat → List Nat} (F : Fg w o L live pt E R) {a b : Nat} (la : live a) (lb : live b) :
    (binOp .neq 87 (.pointer (some ⟨pt a, 0, none⟩)) (.pointer (some ⟨pt b, 0, none⟩))).run Try.prog w = .ok (.bool (!decide (a = b))) w := by
  obtain ⟨nd, hv, T, S, P, G, hR, hT⟩ := F
  have := G.m.neq G.s.nz (a := a) lb (fun _ => la)
  rwa [pqn pt (G.s.ne la)] at this
theorem Fg.ed {w : World} {o : Nat → Nat} {L n : Nat} {ed : Nat → Option Ed} {pt : Nat → Nat} {R : Nat → List Nat} (F : Fg w o L (liveN n ed) pt (edE ed) R) {i : Nat} {x : Ed} (hx : ed i = some x) :
    w.cell? ⟨pt (2 * i + 2), 8, none⟩ = some (.int .i64 (x.u : Nat)) ∧ w.cell? ⟨pt (2 * i + 2), 9, none⟩ = some (.int .i64 (x.v : Nat)) := by
  obtain ⟨nd, hv, T, S, P, G, hR, hT⟩ := F
  obtain ⟨_, a, b, _⟩ := G.m.edge (liveN_e.2 (show (ed i).isSome = true by rw [hx]; rfl)) (by omega)
  rw [edE_e, hx] at a b
  exact ⟨a, b⟩
/-- No edge of that ID. -/
theorem cut_none (w : World) (o : Nat → Nat) (L p n : Nat) (ed : Nat → Option Ed) (R : Nat → List Nat) (m : Nat) (id : Int) (X : Tx w o L p n ed R m) (h64 : In64 id) (hn : ∀ i : Nat, id = (i : Nat) → ed i = none) :
    Calls Try.prog 37 #[.pointer (some ⟨p, 0, none⟩), .int .i64 id] w fun e w' => e = .returned (.int .i64 53) ∧ w' = w := by
  obtain ⟨X0, pt, bv, cap, bm, TB, F⟩ := X
  obtain ⟨c0, c1, _⟩ := TB.cells
  have hl := TB.2.2.look id h64
  have e1 : edF ed pt id = none := by
    unfold edF
    by_cases h : id < 0
    · rw [if_pos h]
    · rw [if_neg h, hn id.toNat (by omega)]; rfl
  rw [e1] at hl
  simp only [ptrV] at hl
  clear TB F
  go_enter Try.func37, Try.ntmps37
  go_wp2
  go_ret
  exact ⟨rfl, rfl⟩

set_option maxRecDepth 100000 in
set_option maxHeartbeats 4000000 in
theorem cut_in (w : World) (o : Nat → Nat) (L p n : Nat) (ed : Nat → Option Ed) (R : Nat → List Nat) (m i : Nat) (x : Ed) (X : Tx w o L p n ed R m) (hx : ed i = some x) :
    Calls Try.prog 37 #[.pointer (some ⟨p, 0, none⟩), .int .i64 (i : Nat)] w fun e w' => e = .returned (.int .i64 0) ∧ ∃ R', Tx w' o L p n (upd ed i none) R' m ∧ Step (TL L) w o w' o := by
  obtain ⟨X0, pt, bv, cap, bm, TB, F⟩ := X
  have ok := X0.2.2.1
  obtain ⟨i40, xu, xv, xne, _⟩ := ok i x hx
  have hT := F.rt
  have i64 : In64 (i : Nat) := ⟨by omega, by omega⟩
  obtain ⟨c0, c1, _⟩ := TB.cells
  have hl := TB.2.2.look (i : Nat) i64
  have is : (ed i).isSome = true := by rw [hx]; rfl
  rw [edF_some is] at hl
  simp only [ptrV] at hl
  have li : liveN n ed (2 * i + 2) := liveN_e.2 is
  obtain ⟨a, b, ab, ea, eb⟩ := X0.2.2.2.e i x hx
  have hb : b < n := by omega
  have ha : a < n := by omega
  have lb : liveN n ed (2 * b + 1) := liveN_v hb
  have hc1 := cutAbove_fg w o L _ pt _ R (2 * i + 2) F li
  clear F
  go_enter Try.func37, Try.ntmps37
  go_wp2_with fail
  refine hc1.mono ?_
  rintro e w1 ⟨rfl, F1, s1⟩
  have TB1 := TB.step s1 (fun k => NL.tb)
  obtain ⟨d0, d1, _⟩ := TB1.cells
  obtain ⟨e8, e9⟩ := F1.ed hx
  have cu := TB1.vert xu
  have cv := TB1.vert xv
  have bu : (x.u : Int) < (n : Int) := by omega
  have bv1 : (x.v : Int) < (n : Int) := by omega
  have u0 : (0 : Int) ≤ (x.u : Int) := by omega
  clear hc1 hl c0 c1 TB
  generalize hxu : x.u = xuu at *
  generalize hxv : x.v = xvv at *
  go_wp2_with fail
  go_quiet (fail)
  rename_i nq
  have F1' := F1.step ((Step.refl (fun _ => False) w1 o).drewN (nq + 1)) (fun _ _ => id)
  have TB1' := TB1.step ((Step.refl (fun _ => False) w1 o).drewN (nq + 1)) (fun _ _ _ => id)
  have s1' : Step (NL L) w o (w1.drewN (nq + 1)) o := s1.drewN _
  have HK : Hid (∀ wx, Fg wx o L (liveN n ed) pt (edE ed) (cutR R (2 * i + 2)) → Tb wx o L p n bv cap bm m (edF ed pt) (vps pt n) → Step (NL L) w o wx o → Calls Try.prog 48 #[.pointer (some ⟨pt (2 * b + 1), 0, none⟩)] wx fun e w' => e = .returned (.tuple #[]) ∧ w'.cell? ⟨p, 1, none⟩ = some (.map (some bm)) ∧ ∃ w5, (Builtin.delete_ #[79, 3] 0 #[.map (some bm), .int .i64 (i : Nat)]).run Try.prog w' = .ok (.tuple #[]) w5 ∧ ∃ R', Tx w5 o L p n (upd ed i none) R' m ∧ Step (TL L) w o w5 o) := fun wx Fx TBx sx => by
    refine (cutAbove_fg wx o L _ pt _ _ (2 * b + 1) Fx lb).mono ?_
    rintro e w' ⟨rfl, F', s'⟩
    have TB' := TBx.step s' (fun k => NL.tb)
    obtain ⟨w5, hd, M5, s5⟩ := TB'.2.2.del (i : Nat) i64 0
    refine ⟨rfl, TB'.cells.2.1, w5, hd, cutR R (2 * b + 1), ?_, ((sx.trans s').mono fun k hk => hk.tl).trans (s5.mono fun k hk => ⟨by omega, by omega⟩)⟩
    obtain ⟨re, rk⟩ := cut_two X0.2.2.2 ok hT hx (by rw [hxu, hxv]; exact ab) ea eb
    have F2 := F'.remove (E' := edE (upd ed i none)) li (fun k lk ke => by rw [(rk k lk ke).1]; exact (rk k lk ke).2) re (fun k lk ke => by
      rcases live_cases lk with ⟨j, y, rfl, hy⟩ | ⟨y, rfl, _⟩
      · have : j ≠ i := fun z => ke (by rw [z])
        rw [edE_e, edE_e, upd_other _ _ this]
      · unfold edE; rw [if_neg (by omega), if_neg (by omega)])
    have F3 := F2.congr (R' := cutR R (2 * b + 1)) (fun k lk => (rk k lk.1 lk.2).1.symm)
    rw [← liveN_cut] at F3
    refine ⟨⟨X0.1, X0.2.1, fun j y hy => ?_, X0.2.2.2.cut ok hT hx (by rw [hxu, hxv]; exact ab) ea eb⟩, pt, bv, cap, bm, ⟨TB'.1.step s5 (by omega), TB'.2.1.step s5 (by omega), M5.congr fun j _ => ?_⟩, F3.step s5 (fun k hk => by have := hk.1; omega)⟩
    · have ji : j ≠ i := fun z => by rw [z, upd_same] at hy; simp at hy
      rw [upd_other _ _ ji] at hy; exact ok j y hy
    · unfold edF
      by_cases q : j = (i : Nat)
      · rw [if_pos q, q, if_neg (by omega)]; simp [upd_same]
      · rw [if_neg q]
        by_cases j0 : j < 0
        · rw [if_pos j0, if_pos j0]
        · rw [if_neg j0, if_neg j0, upd_other _ _ (by omega)]
  have HR : Hid (Calls Try.prog 49 #[.pointer (some ⟨pt (2 * xuu + 1), 0, none⟩)] (w1.drewN (nq + 1)) fun e w' => ∃ r, e = .returned (.pointer (some ⟨pt r, 0, none⟩)) ∧ (binOp .neq 87 (.pointer (some ⟨pt r, 0, none⟩)) (.pointer (some ⟨pt (2 * i + 2), 0, none⟩))).run Try.prog w' = .ok (.bool (!decide (b = xuu))) w' ∧ Fg w' o L (liveN n ed) pt (edE ed) (cutR R (2 * i + 2)) ∧ Step (NL L) (w1.drewN (nq + 1)) o w' o) := by
    refine (root_fg _ o L _ pt _ _ (2 * xuu + 1) F1' (liveN_v (by omega))).mono ?_
    rintro e w' ⟨r, q1, q2, q3, q4⟩
    have key : decide (r = 2 * i + 2) = decide (b = xuu) := ?_
    · refine ⟨r, q1, ?_, q3, q4⟩
      rw [← key]; exact q3.neq q2.2 li
    obtain ⟨pe, hpe⟩ := hT.last _ li
    by_cases hbu : b = xuu
    · rw [decide_eq_true hbu]
      apply decide_eq_true
      obtain ⟨q, e1, e2⟩ := hT.cut_in li hpe lb (by rw [eb, hpe]; simp)
      rw [← hbu, e2] at q2
      simp at q2; exact q2.1.symm
    · rw [decide_eq_false hbu]
      apply decide_eq_false
      intro z
      have hau : a = xuu := by omega
      have la : liveN n ed (2 * a + 1) := liveN_v ha
      have nm : 2 * i + 2 ∉ R (2 * a + 1) := fun mm => by
        have nn := hT.nodup _ li
        rw [ea] at nn
        exact (List.nodup_append.1 nn).2.2 _ mm _ (by simp) rfl
      rw [← hau, cut_out nm, z] at q2
      refine nm ?_
      cases hh : R (2 * a + 1) with
      | nil => rw [hh] at q2; simp at q2
      | cons c C => rw [hh] at q2; simp at q2; rw [q2.1]; simp
  clear TB1 s1 F1 F1' d0 d1 e8 e9 cu cv
  by_cases hbu : b = xuu
  · rw [decide_eq_true hbu] at HR
    go_wp2_with fail
    go_region_with (go_at_call 49; refine HR.out.mono ?_; rintro e w2 ⟨r, rfl, hne, F2, sq⟩)
    all_goals
      have TB2 := TB1'.step sq (fun k => NL.tb)
      have s2 := s1'.trans sq
      have hkk := HK.out w2 F2 TB2 s2
      rw [hbu] at hkk
      clear HR sq TB1' s1' hne HK F2 TB2 s2
      go_wp2_with fail
      refine hkk.mono ?_
      rintro e w4 ⟨rfl, g1, w5, hdel, R', X5, s5⟩
      clear hkk
      go_wp2
      go_ret
      exact ⟨rfl, R', X5, s5⟩
  · rw [decide_eq_false hbu] at HR
    have hbv : b = xvv := by omega
    go_wp2_with fail
    go_region_with (go_at_call 49; refine HR.out.mono ?_; rintro e w2 ⟨r, rfl, hne, F2, sq⟩)
    all_goals
      have TB2 := TB1'.step sq (fun k => NL.tb)
      have s2 := s1'.trans sq
      obtain ⟨f0, f1, _⟩ := TB2.cells
      obtain ⟨_, f9⟩ := F2.ed hx
      rw [hxv] at f9
      have fv := TB2.vert xv
      have HKD : Hid (∀ mm, Calls Try.prog 48 #[.pointer (some ⟨pt (2 * b + 1), 0, none⟩)] (w2.drewN mm) fun e w' => e = .returned (.tuple #[]) ∧ w'.cell? ⟨p, 1, none⟩ = some (.map (some bm)) ∧ ∃ w5, (Builtin.delete_ #[79, 3] 0 #[.map (some bm), .int .i64 (i : Nat)]).run Try.prog w' = .ok (.tuple #[]) w5 ∧ ∃ R', Tx w5 o L p n (upd ed i none) R' m ∧ Step (TL L) w o w5 o) := fun mm =>
        have sd : Step (fun _ => False) w2 o (w2.drewN mm) o := (Step.refl _ _ _).drewN mm
        HK.out _ (F2.step sd (fun _ _ => id)) (TB2.step sd (fun _ _ _ => id)) (s2.drewN mm)
      rw [hbv] at HKD
      clear HR sq TB1' s1' hne HK F2 TB2 s2
      go_wp2_with fail
      go_quiet (fail)
      go_wp2_with fail
      refine (HKD.out _).mono ?_
      rintro e w4 ⟨rfl, g1, w5, hdel, R', X5, s5⟩
      clear HKD
      go_wp2
      go_ret
      exact ⟨rfl, R', X5, s5⟩

end Go.Proofs.Ytffmlffhiimmdaa
