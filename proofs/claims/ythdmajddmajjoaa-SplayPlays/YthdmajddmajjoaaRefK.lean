/- The document's own forest: may, Set, New. -/
import Derived.Test.YthdmajddmajjoaaRefJ
import Derived.Test.YthdmajddmajjoaaSetF
namespace Go.Proofs.Ythdmajddmajjoaa
open Go.ChangeShapes Go.WideShapes Go.ChangeAt Go.RowKit
set_option linter.unusedVariables false

theorem xmay_any (w : World) (o : Nat → Nat) (v : Int) (c : Bool) (f : Int) :
    Calls Try.prog 45 #[itemR v c f] w fun e w' => e = .returned (.bool (mayB v f)) ∧ Step (fun _ => False) w o w' o := by
  unfold itemR
  by_cases h1 : -1099511627776 ≤ v
  · by_cases h2 : v ≤ 1099511627776
    · by_cases h3 : 0 ≤ f
      · by_cases h4 : f ≤ 255
        · have e : mayB v f = true := by simp [mayB, h1, h2, h3, h4]
          rw [e]
          clear e
          go_enter Try.func45, Try.ntmps45
          go_wp2
          go_ret
          exact ⟨rfl, newB _ _ _⟩
        · have e : mayB v f = false := by simp [mayB, h1, h2, h3, h4]
          rw [e]
          clear e
          go_enter Try.func45, Try.ntmps45
          go_wp2
          go_ret
          exact ⟨rfl, newB _ _ _⟩
      · have e : mayB v f = false := by simp [mayB, h1, h2, h3]
        rw [e]
        clear e
        go_enter Try.func45, Try.ntmps45
        go_wp2
        go_ret
        exact ⟨rfl, newB _ _ _⟩
    · have e : mayB v f = false := by simp [mayB, h1, h2]
      rw [e]
      clear e
      go_enter Try.func45, Try.ntmps45
      go_wp2
      go_ret
      exact ⟨rfl, newB _ _ _⟩
  · have e : mayB v f = false := by simp [mayB, h1]
    rw [e]
    clear e
    go_enter Try.func45, Try.ntmps45
    go_wp2
    go_ret
    exact ⟨rfl, newB _ _ _⟩


theorem itcells_set : ∀ (l : List It) (k : Nat) (x : It), (((itcells l).set (k * 3) (.int .i64 x.v)).set (k * 3 + 1) (.bool x.c)).set (k * 3 + 2) (.int .i64 (x.f : Nat)) = itcells (l.set k x)
  | [], k, x => by simp [itcells]
  | p :: r, 0, x => by
    have e : itcells (p :: r) = .int .i64 p.v :: .bool p.c :: .int .i64 (p.f : Nat) :: itcells r := rfl
    rw [e]
    rfl
  | p :: r, k + 1, x => by
    have e : itcells (p :: r) = .int .i64 p.v :: .bool p.c :: .int .i64 (p.f : Nat) :: itcells r := rfl
    have e2 : itcells ((p :: r).set (k + 1) x) = .int .i64 p.v :: .bool p.c :: .int .i64 (p.f : Nat) :: itcells (r.set k x) := rfl
    have e1 : (k + 1) * 3 = k * 3 + 1 + 1 + 1 := by omega
    rw [e2, ← itcells_set r k x, e, e1]
    rfl
theorem itcells_length (l : List It) : (itcells l).length = l.length * 3 := by
  induction l with
  | nil => rfl
  | cons p r ih =>
    have e : itcells (p :: r) = .int .i64 p.v :: .bool p.c :: .int .i64 (p.f : Nat) :: itcells r := rfl
    rw [e]
    simp [ih]
    omega
theorem itcells_snoc (l : List It) (x : It) : itcells (l ++ [x]) = itcells l ++ [.int .i64 x.v, .bool x.c, .int .i64 (x.f : Nat)] := by
  simp [itcells]
theorem row_item {w : World} {o : Nat → Nat} {i gi ci m : Nat} {its : List It} (h : Row w o i 36 3 (.slice (some ⟨gi, 0, none⟩) m ci) m (itcells its)) (hg : o gi = i) (k : Nat) (x : It) :
    Row (((w.setCell ⟨gi, k * 3, none⟩ (.int .i64 x.v)).setCell ⟨gi, k * 3 + 1, none⟩ (.bool x.c)).setCell ⟨gi, k * 3 + 2, none⟩ (.int .i64 (x.f : Nat))) o i 36 3 (.slice (some ⟨gi, 0, none⟩) m ci) m (itcells (its.set k x)) ∧
    Step (fun l => l = i) w o (((w.setCell ⟨gi, k * 3, none⟩ (.int .i64 x.v)).setCell ⟨gi, k * 3 + 1, none⟩ (.bool x.c)).setCell ⟨gi, k * 3 + 2, none⟩ (.int .i64 (x.f : Nat))) o := by
  have r := ((h.store (k * 3) (.int .i64 x.v)).store (k * 3 + 1) (.bool x.c)).store (k * 3 + 2) (.int .i64 (x.f : Nat))
  rw [itcells_set] at r
  exact ⟨r, (((Step.refl _ w o).setCell _ _ hg).setCell _ _ hg).setCell _ _ hg⟩
section
variable {w : World} {o : Nat → Nat} {R q room n M : Nat} {free : List Nat} {it : Nat → It} {S : Nat → List Nat} {pa : Nat} {vi vn vl : Value} {its : List It} {inL : List Nat} {ls : List Value} {LL : List (List Nat)}
theorem Rx.setItem {gi ci : Nat} (h : Rx w o R q room n M free it S pa (.slice (some ⟨gi, 0, none⟩) (n + 1) ci) vn vl its inL ls LL) (k : Nat) (hk : Live n free k) (x : It) :
    Rx (((w.setCell ⟨gi, k * 3, none⟩ (.int .i64 x.v)).setCell ⟨gi, k * 3 + 1, none⟩ (.bool x.c)).setCell ⟨gi, k * 3 + 2, none⟩ (.int .i64 (x.f : Nat))) o R q room n M free (upd it k x) S pa (.slice (some ⟨gi, 0, none⟩) (n + 1) ci) vn vl (its.set k x) inL ls LL ∧
    Step (fun l => l = R + 4) w o (((w.setCell ⟨gi, k * 3, none⟩ (.int .i64 x.v)).setCell ⟨gi, k * 3 + 1, none⟩ (.bool x.c)).setCell ⟨gi, k * 3 + 2, none⟩ (.int .i64 (x.f : Nat))) o := by
  obtain ⟨r, s⟩ := row_item h.ri (h.ri.2 gi rfl) k x
  have hkn : k ≤ n := hk.2.1
  have hli := h.li
  refine ⟨⟨h.blk.step s (by omega), h.ar.step s (fun l hl => by have := hl.1; have := hl.2; omega), r, by simp [hli], h.rn.step s (by omega), h.ln, h.rl.step s (by omega), h.ll, fun i hi => (h.rows i hi).step s (by omega), fun j hj => ?_, h.rp, h.pl, h.small, h.many, h.mny⟩, s⟩
  by_cases e : j = k
  · subst e
    rw [upd_same, getD_set_same _ _ _ _ (by omega)]
  · rw [upd_other _ _ e, getD_set_other _ _ _ _ _ e]
    exact h.items j hj
theorem x_set_out (x v : Int) (c : Bool) (f : Int) (h : Rx w o R q room n M free it S pa vi vn vl its inL ls LL) (hb : hasB n free x = false) :
    Calls Try.prog 21 #[.pointer (some ⟨q, 0, none⟩), .int .i64 x, itemR v c f] w fun e w' => e = .returned (.int .i64 31) ∧ Below w.heap.size w w' := by
  have h1 := h.step (allocStep (fun _ => False) w o (.cells #[.int .i64 v, .bool c, .int .i64 f] 36)) (fun _ _ => id)
  have c1 := x_has x h1
  rw [hb] at c1
  unfold itemR
  clear h h1
  go_enter Try.func21, Try.ntmps21
  go_wp2_with (go_at_call 48; refine c1.mono ?_; rintro e w1 ⟨rfl, rfl⟩)
  go_ret
  exact ⟨rfl, one_below _ _⟩
theorem x_set_bad (k : Nat) (v : Int) (c : Bool) (f : Int) (h : Rx w o R q room n M free it S pa vi vn vl its inL ls LL) (hk : Live n free k) (hb : mayB v f = false) :
    Calls Try.prog 21 #[.pointer (some ⟨q, 0, none⟩), .int .i64 (k : Nat), itemR v c f] w fun e w' => e = .returned (.int .i64 1) ∧ Below w.heap.size w w' := by
  have h1 := h.step (allocStep (fun _ => False) w o (.cells #[.int .i64 v, .bool c, .int .i64 f] 36)) (fun _ _ => id)
  have c1 := x_has (k : Int) h1
  rw [hasB_nat hk] at c1
  have c2 := fun wx => xmay_any wx (fun _ => 0) v c f
  rw [hb] at c2
  unfold itemR at c2 ⊢
  clear h h1
  go_enter Try.func21, Try.ntmps21
  go_wp2_with fail
  refine c1.mono ?_
  rintro e w1 ⟨rfl, rfl⟩
  go_wp2_with fail
  refine (c2 _).mono ?_
  rintro e w2 ⟨rfl, s2⟩
  have Z := ((newB w (fun _ => 0) _).trans s2).below (fun _ _ => id)
  clear c1 c2 s2
  go_wp2
  go_ret
  exact ⟨rfl, Z⟩
set_option maxRecDepth 100000 in
set_option maxHeartbeats 2000000 in
theorem x_set_in (k : Nat) (x : It) (h : Rx w o R q room n M free it S pa vi vn vl its inL ls LL) (hk : Live n free k) (hx : x.may) :
    Calls Try.prog 21 #[.pointer (some ⟨q, 0, none⟩), .int .i64 (k : Nat), itemV x] w fun e w' => e = .returned (.int .i64 0) ∧ ∃ o', Rx w' o' R q room n M free (upd it k x) S pa vi vn vl (its.set k x) inL ls LL ∧ Step (XL R) w o w' o' := by
  have s1 := newStep (fun _ => False) w o (R + 9) (.cells #[.int .i64 x.v, .bool x.c, .int .i64 x.f] 36)
  have B1 : Blk (w.alloc (.cells #[.int .i64 x.v, .bool x.c, .int .i64 x.f] 36)) (newLab w o (R + 9)) (R + 9) w.heap.size (.cells #[.int .i64 x.v, .bool x.c, .int .i64 x.f] 36 (0, 0)) := ⟨heap_alloc_new w _, newLab_new (Nat.le_refl _)⟩
  have h1 := h.step s1 (fun _ _ => id)
  have c1 := x_has (k : Int) h1
  rw [hasB_nat hk] at c1
  have c2 := fun wx => xmay_any wx (newLab w o (R + 9)) x.v x.c x.f
  rw [mayB_of x hx] at c2
  obtain ⟨gi, ci, rfl, i1, i2, -, -, -⟩ := h.item hk
  have hkn : k ≤ n := hk.2.1
  have hkI : (k : Int) < (n : Int) + 1 := by omega
  unfold itemR at c2
  unfold itemV
  go_enter Try.func21, Try.ntmps21
  go_wp2_with fail
  refine c1.mono ?_
  rintro e w1 ⟨rfl, rfl⟩
  go_wp2_with fail
  refine (c2 _).mono ?_
  rintro e w2 ⟨rfl, s2⟩
  have h3 := h1.step s2 (fun _ _ => id)
  have B3 := B1.step s2 id
  obtain ⟨h4, s4⟩ := h3.setItem k hk x
  have d4 := (Step.refl (fun _ => False) (((w2.setCell ⟨gi, k * 3, none⟩ (.int .i64 x.v)).setCell ⟨gi, k * 3 + 1, none⟩ (.bool x.c)).setCell ⟨gi, k * 3 + 2, none⟩ (.int .i64 (x.f : Nat))) (newLab w o (R + 9))).drew
  have h5 := h4.step d4 (fun _ _ => id)
  have B4 := (B3.step s4 (by omega)).step d4 id
  obtain ⟨_, d1', _, _, _⟩ := h5.blk.cells4
  obtain ⟨b0', b1', b2', _⟩ := B4.cells3
  have dd := (Step.refl (fun _ => False) w2 (newLab w o (R + 9))).drew
  obtain ⟨_, d1, _, _, _⟩ := (h3.step dd (fun _ _ => id)).blk.cells4
  obtain ⟨b0, b1, b2, _⟩ := (B3.step dd id).cells3
  obtain ⟨_, _, e9, _, _, i5, i6, i7⟩ := h3.item hk
  injection e9 with e9 _ _
  injection e9 with e9
  injection e9 with e9 _ _
  subst e9
  have fr : ∀ j, w2.frozen? ⟨gi, j, none⟩ = false := fun j => h3.ri.1.frozenAt j
  have RS := (((s1.trans s2).mono (J := XL R) fun _ hh => hh.elim).trans (s4.mono fun l hl => by unfold XL; omega)).trans (d4.mono fun _ hh => hh.elim)
  clear dd
  clear h h1 h3 h4 B1 B3 B4 s1 s2 s4 d4 c1 c2
  go_wp2_with fail
  go_region_held (fun wx => wx.cell? ⟨q, 1, none⟩ = some (.slice (some ⟨gi, 0, none⟩) (n + 1) ci) ∧ wx.cell? ⟨w.heap.size, 0, none⟩ = some (.int .i64 x.v) ∧ wx.cell? ⟨w.heap.size, 1, none⟩ = some (.bool x.c) ∧ wx.cell? ⟨w.heap.size, 2, none⟩ = some (.int .i64 x.f)) (first | (with_reducible exact ⟨d1, b0, b1, b2⟩) | (with_reducible exact ⟨d1', b0', b1', b2'⟩)) (fail)
  all_goals
    go_wp2
    go_ret
    exact ⟨rfl, _, h5, RS⟩
end
end Go.Proofs.Ythdmajddmajjoaa
