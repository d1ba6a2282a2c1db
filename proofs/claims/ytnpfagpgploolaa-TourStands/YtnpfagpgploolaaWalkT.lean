/- Tours: a walk. -/
import Derived.Test.YtnpfagpgploolaaLink
import Derived.Test.YtnpfagpgploolaaLaw4
import Derived.Deep.LoopGhost
namespace Go.Proofs.Ytnpfagpgploolaa
open Go.ChangeShapes Go.WideShapes Go.ChangeAt Go.RowKit Go.Maps
set_option linter.unusedVariables false

/-- The vertices of a tour, as it comes to them. -/
def walkL (g : Nat → Nat × Nat) (X : List Nat) : List Nat := (X.filter (fun k => (g k).1 = (g k).2)).map (fun k => (g k).2)
theorem walkL_append (g : Nat → Nat × Nat) (X Y : List Nat) : walkL g (X ++ Y) = walkL g X ++ walkL g Y := by unfold walkL; rw [List.filter_append, List.map_append]
theorem walkL_len (g : Nat → Nat × Nat) (X : List Nat) : (walkL g X).length ≤ X.length := by unfold walkL; rw [List.length_map]; exact List.length_filter_le _ _
theorem walkL_stop (g : Nat → Nat × Nat) (X : List Nat) (k : Nat) (h : (g k).1 = (g k).2) : walkL g (X ++ [k]) = walkL g X ++ [(g k).2] := by rw [walkL_append]; simp [walkL, h]
theorem walkL_step (g : Nat → Nat × Nat) (X : List Nat) (k : Nat) (h : (g k).1 ≠ (g k).2) : walkL g (X ++ [k]) = walkL g X := by rw [walkL_append]; simp [walkL, h]

theorem isStop_any (w : World) (o : Nat → Nat) (a b : Nat) : Calls Try.prog 54 #[.agg #[.int .i64 a, .int .i64 b]] w fun e w' => e = .returned (.bool (decide (a = b))) ∧ ∃ o', Step (fun _ => False) w o w' o' := by
  by_cases h : a = b
  · have e : decide (a = b) = true := decide_eq_true h
    have e2 : ((a : Int) == (b : Int)) = true := by simp [h]
    rw [e]
    go_enter Try.func54, Try.ntmps54
    go_wp2
    go_ret
    exact ⟨rfl, o, (Step.refl _ _ _).alloc _⟩
  · have e : decide (a = b) = false := decide_eq_false h
    have e2 : ((a : Int) == (b : Int)) = false := by simp only [beq_eq_false_iff_ne, ne_eq]; omega
    rw [e]
    go_enter Try.func54, Try.ntmps54
    go_wp2
    go_ret
    exact ⟨rfl, o, (Step.refl _ _ _).alloc _⟩

/-- The state of the walk's loop. -/
def WalkS (w2 : World) (o2 : Nat → Nat) (lb : Nat) (g : Nat → Nat × Nat) (X : List Nat) (k : Nat) (v : Value) (wr : World) : Prop :=
  ∃ o', Row wr o' lb 3 1 v (walkL g (X.take k)).length (intsL (walkL g (X.take k))) ∧ Step (fun k => k = lb) w2 o2 wr o'
/-- What a walk leaves. -/
def WalkOut (w : World) (o : Nat → Nat) (L p n N : Nat) (free : List Nat) (it : Nat → It) (S : Nat → List Nat) (g : Nat → Nat × Nat) (f : Nat → Nat → Nat) (ms lb v : Nat) (e : Ending) (w' : World) : Prop :=
  ∃ va o', e = .returned (.tuple #[va, .int .i64 0]) ∧ Row w' o' lb 3 1 va (walkL g (S (v + 1))).length (intsL (walkL g (S (v + 1)))) ∧ Tm w' o' L p n N free it S g f ms (stsOf n) ∧ Step (fun k => TL L k ∨ k = lb) w o w' o'

set_option maxRecDepth 100000 in
set_option maxHeartbeats 4000000 in
theorem walk_in (w : World) (o : Nat → Nat) (L p n N lb : Nat) (free : List Nat) (it : Nat → It) (S : Nat → List Nat) (g : Nat → Nat × Nat) (f : Nat → Nat → Nat) (ms v : Nat) (T : Tm w o L p n N free it S g f ms (stsOf n)) (hv : v < n) (lv : Live N free (v + 1)) (hlb : ¬ TL L lb) :
    Calls Try.prog 20 #[.pointer (some ⟨p, 0, none⟩), .int .i64 v] w fun e w' => WalkOut w o L p n N free it S g f ms lb v e w' := by
  obtain ⟨ii, hii, hzi0, hzi1, hzi2⟩ := info_parts infoInt
  obtain ⟨pf, bs, cap, bm, bg, h1, h2, h3, h4, h5⟩ := T
  have hv1 := has_any w o L p n pf bs cap bm bg v h1
  rw [decide_eq_true (by omega)] at hv1
  have HC : Hid _ := Tm.cellsF h1 h3
  have sd : Step (FL L) w o w.drew o := (Step.refl _ _ _).drew
  obtain ⟨⟨c0, c1⟩, cv⟩ := HC.out _ _ sd
  have cv := cv v hv
  have hlen := h2.len lv
  have hal := allInF w.drew o L pf _ N (L + 1106) free it S (v + 1) (h2.quiet ((Step.refl _ _ _).drew)) lv (fun h => by have := h.2; omega)
  have hlive : ∀ k ∈ S (v + 1), Live N free k := fun k hk => (h2.mem lv hk).1
  have h2k := h2.le
  obtain ⟨hcap, hmx⟩ : n ≤ cap ∧ cap ≤ 9223372036854775807 := by
    obtain ⟨g', cap', hv', _, hcap, hmx, _, _, _⟩ := h3.pos (by omega)
    simp only [Value.slice.injEq, Option.some.injEq, Addr.mk.injEq, and_true, true_and] at hv'
    obtain ⟨rfl, rfl⟩ := hv'
    unfold maxLen at hmx
    exact ⟨hcap, hmx⟩
  have hvn : (v : Int) < (n : Int) := by omega
  have HCJ : Hid (∀ wx ox, Step (fun k => FL L k ∨ k = L + 1106) w o wx ox → wx.cell? ⟨p, 0, none⟩ = some (.pointer (some ⟨pf, 0, none⟩)) ∧ wx.cell? ⟨p, 1, none⟩ = some (.slice (some ⟨bs, 0, none⟩) n cap) ∧ wx.cell? ⟨bs, v, none⟩ = some (.int .i64 (v + 1 : Nat))) := fun wx ox s => by
    have c := (h1.step s (fun h => h.elim (fun h => by have := h.2; omega) (fun h => by omega))).cells
    have r := h3.step s (fun h => h.elim (fun h => by have := h.2; omega) (fun h => by omega))
    obtain ⟨g', cap', hv', _, _, _, _, hcell', _⟩ := r.pos (by omega)
    simp only [Value.slice.injEq, Option.some.injEq, Addr.mk.injEq, and_true, true_and] at hv'
    obtain ⟨rfl, _⟩ := hv'
    exact ⟨c.1, c.2.1, by rw [hcell' v (by omega)]; exact stsOf_at hv⟩
  have sj : Step (fun k => FL L k ∨ k = L + 1106) w o w.drew o := (Step.refl _ _ _).drew
  obtain ⟨X, hX⟩ : ∃ X, X = S (v + 1) := ⟨_, rfl⟩
  rw [← hX] at hal hlen hlive
  have hX0 : 0 < X.length := by rw [hX]; exact List.length_pos_of_mem (h2.self lv)
  unfold WalkOut
  rw [← hX]
  clear hX
  go_enter Try.func20, Try.ntmps20
  go_wp2_with fail
  refine hv1.mono ?_
  rintro e w' ⟨rfl, hw'⟩
  obtain rfl : w = w' := hw'.symm
  go_wp2_with fail
  go_region_held (fun wx => wx.cell? ⟨p, 0, none⟩ = some (.pointer (some ⟨pf, 0, none⟩)) ∧ wx.cell? ⟨p, 1, none⟩ = some (.slice (some ⟨bs, 0, none⟩) n cap) ∧ wx.cell? ⟨bs, v, none⟩ = some (.int .i64 (v + 1 : Nat))) (first | (with_reducible exact ⟨c0, c1, cv⟩) | (with_reducible exact K2)) ((go_at_call 53; refine hal.mono ?_; rintro e w2 ⟨va, o2, rfl, r2, F2, s2⟩; have s3 := sj.trans s2; have K2 := HCJ.out _ _ s3))
  all_goals
    have nj : ∀ k, (FL L k ∨ k = L + 1106) → k < L + 1100 ∨ k = L + 1106 := fun k hk => hk.imp (fun h => by have := h.2; omega) id
    have k1 := h1.step s3 (fun h => by have := nj _ h; omega)
    have k3 := h3.step s3 (fun h => by have := nj _ h; omega)
    have k4 := h4.step s3 (fun h => by have := nj _ h; omega)
    have k5 := h5.step s3 (fun h => by have := nj _ h; omega)
    have lbT : ∀ k, k = lb → ¬ TL L k := fun k hk => by rw [hk]; exact hlb
    have HG : Hid (∀ wx ox, Step (fun k => k = lb) w2 o2 wx ox → wx.cell? ⟨p, 3, none⟩ = some (.map (some bg)) ∧ ∀ k ∈ X, (Instr.lookup 70 (.map (some bg)) (.int .i64 (k : Nat)) false).run Try.prog wx = .ok (.agg #[.int .i64 ((g k).1 : Nat), .int .i64 ((g k).2 : Nat)]) wx) := fun wx ox s =>
      ⟨(k1.step s (fun h => lbT _ h ⟨by omega, by omega⟩)).cells.2.2.2, fun k hk => (k5.step s (fun h => lbT _ h ⟨by omega, by omega⟩)).look k (by have := (hlive k hk).2.1; omega) (hlive k hk)⟩
    obtain ⟨ga, ca, rfl, hga, hca, hma, hgal, hcell, hfr⟩ := r2.pos hX0
    have HX : Hid (∀ wx ox, Step (fun k => k = lb) w2 o2 wx ox → ∀ j (hj : j < X.length), wx.cell? ⟨ga, j, none⟩ = some (.int .i64 (X[j] : Nat))) := fun wx ox s j hj => by
      rw [s.cell hgal (by rw [hga]; exact fun h => lbT _ h ⟨by omega, by omega⟩), hcell j (by omega)]; exact intsL_get X j hj
    have HEND : Hid (∀ wx ox, Step (fun k => k = lb) w2 o2 wx ox → Tm wx ox L p n N free it S g f ms (stsOf n) ∧ Step (fun k => TL L k ∨ k = lb) w o wx ox) := fun wx ox s =>
      ⟨⟨pf, bs, cap, bm, bg, k1.step s (fun h => lbT _ h ⟨by omega, by omega⟩), F2.step s (fun k hk h => lbT _ h hk.tl), k3.step s (fun h => lbT _ h ⟨by omega, by omega⟩), k4.step s (fun h => lbT _ h ⟨by omega, by omega⟩), k5.step s (fun h => lbT _ h ⟨by omega, by omega⟩)⟩, (s3.mono fun k hk => Or.inl (hk.elim (fun h => h.tl) (fun h => ⟨by omega, by omega⟩))).trans (s.mono fun k hk => Or.inr hk)⟩
    have START : WalkS w2 o2 lb g X 0 (.slice none 0 0) w2 := ⟨o2, Row.nil _ _ _ _ _, Step.refl _ _ _⟩
    have hlb2 : L + 1107 ≠ lb := fun e => lbT _ e ⟨by omega, by omega⟩
    unfold maxLen at hma
    clear h1 h2 h3 h4 h5 k1 k3 k4 k5 K2 hal hv1 HC HCJ c0 c1 cv r2 F2 s2 s3 sd sj hcell hfr hlive
    go_wp2
    go_loopg [8, 33] X.length (fun gh vv i wr => ∃ k : Nat, i = .int .i64 (k : Nat) ∧ k ≤ X.length ∧ gh = X.length - k ∧ WalkS w2 o2 lb g X k vv wr)
    case atStart => exact ⟨0, by go_num, by omega, by omega, START⟩
    case round =>
      clear START
      obtain ⟨k, rfl, hk, rfl, o3, r3, s3⟩ := hrel
      have fm := r3.form
      obtain ⟨ar, cr, rfl⟩ := fm
      by_cases hlt : k < X.length
      · have cx := HX.out _ _ s3 k hlt
        obtain ⟨cp, hlk⟩ := HG.out _ _ s3
        have hr := hlk X[k] (List.getElem_mem _)
        have etk : X.take (k + 1) = X.take k ++ [X[k]] := List.take_succ_eq_append_getElem hlt
        have hwl := walkL_len g (X.take k)
        rw [List.length_take] at hwl
        obtain ⟨y, hy⟩ : ∃ y, y = X[k] := ⟨_, rfl⟩
        rw [← hy] at cx hr etk
        obtain ⟨a, ha⟩ : ∃ a, a = (g y).1 := ⟨_, rfl⟩
        obtain ⟨b, hb⟩ : ∃ b, b = (g y).2 := ⟨_, rfl⟩
        rw [← ha, ← hb] at hr
        have n4 : Step (fun k => k = lb) wr o3 (wr.alloc (.cells #[.int .i64 a, .int .i64 b] 75)) (newLab wr o3 (L + 1107)) := newStep _ _ _ _ _
        have B4 : Blk (wr.alloc (.cells #[.int .i64 a, .int .i64 b] 75)) (newLab wr o3 (L + 1107)) (L + 1107) wr.heap.size (.cells #[.int .i64 a, .int .i64 b] 75 (0, 0)) := ⟨heap_alloc_new wr _, newLab_new (Nat.le_refl _)⟩
        have hst := isStop_any (wr.alloc (.cells #[.int .i64 a, .int .i64 b] 75)) (newLab wr o3 (L + 1107)) a b
        have r4 := r3.step (newStep (fun _ => False) wr o3 (L + 1107) (.cells #[.int .i64 a, .int .i64 b] 75)) id
        have hkl : (k : Int) < (X.length : Int) := by omega
        have HTK : Hid (X.take (k + 1) = X.take k ++ [y]) := etk
        have HW : Hid (a = (g y).1 ∧ b = (g y).2) := ⟨ha, hb⟩
        clear hlk etk hy ha hb r3
        by_cases hab : a = b
        · rw [decide_eq_true hab] at hst
          have ew : walkL g (X.take (k + 1)) = walkL g (X.take k) ++ [b] := by rw [HTK.out, walkL_stop _ _ _ (by rw [← HW.out.1, ← HW.out.2]; exact hab), ← HW.out.2]
          have HEW : Hid (walkL g (X.take (k + 1)) = walkL g (X.take k) ++ [b]) := ew
          obtain ⟨Wk, hWk⟩ : ∃ W, W = walkL g (X.take k) := ⟨_, rfl⟩
          rw [← hWk] at r4 hwl HEW ⊢
          have b1 : Wk.length + 1 ≤ maxLen := by unfold maxLen; omega
          clear ew hWk HTK HW
          subst hab
          go_wp2_with fail
          refine hst.mono ?_
          rintro e w5 ⟨rfl, o5, s5⟩
          obtain ⟨y0, y1⟩ := (B4.step s5 id).cells2
          have r5 := r4.step s5 id
          have s5' := (s3.trans n4).trans (s5.mono (J := fun k => k = lb) fun _ h => h.elim)
          clear hst B4 r4 s5 n4 cx hr
          go_wp2_with (first | (at_builtin; refine wpList_append_lab rfl (.tmp 45) (.tmp 48) 41 rfl 3 ii (.int .i64 0) 1 8 Try.underlying41 hii hzi0 hzi1 hzi2 rfl (by decide) o5 lb _ Wk.length (intsL Wk) rfl (r5.step (allocStep (fun _ => False) _ o5 _) (by simp)) ⟨w5.heap.size, 0, none⟩ 1 1 [.int .i64 a] rfl rfl (new_one_at (by simp) _ _) (by intro u hu; simp at hu; subst hu; rfl) (by decide) b1 (by omega) ?_) | go_in)
          intro g6 c6 w6 o6 r6 s6
          have R : WalkS w2 o2 lb g X (k + 1) (.slice (some ⟨g6, 0, none⟩) (Wk.length + 1) c6) w6 := by
            refine ⟨o6, ?_, s5'.trans ((allocStep (fun k => k = lb) w5 o5 _).trans s6)⟩
            rw [HEW.out, List.length_append, intsL_append]
            exact r6
          clear r5 r6 s6 s5' s3
          go_wp2
          go_roundg (X.length - (k + 1))
          case measure => omega
          case rel => exact ⟨k + 1, by go_num, by omega, rfl, R⟩
        · rw [decide_eq_false hab] at hst
          have ew : walkL g (X.take (k + 1)) = walkL g (X.take k) := by rw [HTK.out, walkL_step _ _ _ (by rw [← HW.out.1, ← HW.out.2]; exact hab)]
          have HEW : Hid (walkL g (X.take (k + 1)) = walkL g (X.take k)) := ew
          obtain ⟨Wk, hWk⟩ : ∃ W, W = walkL g (X.take k) := ⟨_, rfl⟩
          rw [← hWk] at r4 hwl HEW ⊢
          clear ew hWk HTK HW
          go_wp2_with fail
          refine hst.mono ?_
          rintro e w5 ⟨rfl, o5, s5⟩
          have R : WalkS w2 o2 lb g X (k + 1) (.slice ar Wk.length cr) w5 := by
            refine ⟨o5, ?_, (s3.trans n4).trans (s5.mono (J := fun k => k = lb) fun _ h => h.elim)⟩
            rw [HEW.out]
            exact r4.step s5 id
          clear hst B4 r4 s5 n4 cx hr s3
          go_wp2
          go_roundg (X.length - (k + 1))
          case measure => omega
          case rel => exact ⟨k + 1, by go_num, by omega, rfl, R⟩
      · obtain rfl : k = X.length := by omega
        rw [List.take_length] at r3 ⊢
        obtain ⟨T9, S9⟩ := HEND.out _ _ s3
        clear HX HG HEND s3
        go_wp2
        go_ret2
        exact ⟨_, o3, rfl, r3, T9, S9⟩

end Go.Proofs.Ytnpfagpgploolaa
