/- The document's own forest: Make. -/
import Derived.Test.YthdmajddmajjoaaRefO
import Derived.Deep.RegionLaw
import Derived.Deep.CutBlock
import Derived.Deep.DeepCutAuto
namespace Go.Proofs.Ythdmajddmajjoaa
open Go.ChangeShapes Go.WideShapes Go.ChangeAt Go.RowKit
set_option linter.unusedVariables false
set_option linter.unusedSimpArgs false

theorem Row.caps {w : World} {o : Nat → Nat} {i : Nat} {e : TypeId} {size : Nat} {ao : Option Addr} {n cap : Nat} {xs : List Value} (h : Row w o i e size (.slice ao n cap) n xs) (hn : 0 < n) : n ≤ cap ∧ cap ≤ 9223372036854775807 := by
  obtain ⟨g, cap', e, _, h1, h2, _⟩ := h.pos hn
  injection e with _ _ e
  subst e
  unfold maxLen at h2
  exact ⟨h1, h2⟩
theorem new_three3 {w : World} {s : Nat} (hs : w.heap.size = s) (x y z : Value) (t : TypeId) : ∀ j u, [x, y, z][j]? = some u → (w.alloc (.cells #[x, y, z] t)).cell? ((⟨s, 0, none⟩ : Addr).add j) = some u := by
  subst hs
  intro j u hj
  match j, hj with
  | 0, hj => simp at hj; subst hj; simp [Addr.add]
  | 1, hj => simp at hj; subst hj; simp [Addr.add]
  | 2, hj => simp at hj; subst hj; simp [Addr.add]
  | j + 3, hj => simp at hj
theorem infoSl3 : (Try.prog.info? 60).map (fun i => (i.zero, i.size, i.bytes)) = some (some (.slice none 0 0), 1, 24) := by kernel_rfl
theorem Pl.make {live live' : Nat → Prop} {S : Nat → List Nat} (p : Pl live S) {h : Nat} (hn : ¬ live h) (hv : ∀ k, live' k ↔ k = h ∨ live k) : Pl live' (upd S h [h]) := by
  have hne : ∀ k, live k → k ≠ h := fun k hk e => hn (e ▸ hk)
  refine ⟨fun k hk => ?_, fun k hk j hj => ?_, fun k hk => ?_⟩
  · by_cases e : k = h
    · subst e; rw [upd_same]; simp
    · rw [upd_other _ _ e]; exact p.self k (((hv k).1 hk).resolve_left e)
  · by_cases e : k = h
    · subst e
      rw [upd_same] at hj ⊢
      have : j = k := by simpa using hj
      subst this
      exact ⟨hk, upd_same _ _ _⟩
    · rw [upd_other _ _ e] at hj ⊢
      have hk' := ((hv k).1 hk).resolve_left e
      obtain ⟨h1, h2⟩ := p.mem k hk' j hj
      exact ⟨(hv j).2 (.inr h1), by rw [upd_other _ _ (hne j h1)]; exact h2⟩
  · by_cases e : k = h
    · subst e; rw [upd_same]; simp
    · rw [upd_other _ _ e]; exact p.nd k (((hv k).1 hk).resolve_left e)
section
variable {w : World} {o : Nat → Nat} {R q room n M : Nat} {free : List Nat} {it : Nat → It} {S : Nat → List Nat} {pa : Nat} {vi vn vl : Value} {its : List It} {inL : List Nat} {ls : List Value} {LL : List (List Nat)}
theorem Rx.made {wx : World} {ox : Nat → Nat} {n' hd : Nat} {free' : List Nat} {vi' vn' vl' : Value} {its2 : List It} {inL2 : List Nat} {ls' : List Value} {x : It} (h : Rx w o R q room n M free it S pa vi vn vl its inL ls LL)
    (hv : ∀ j, Live n' free' j ↔ j = hd ∨ Live n free j) (hno : ¬ Live n free hd) (hn' : n' ≤ 1024) (hM : M < 5500000000000) (rm : Rm wx ox R q (n' + 1) pa vi' vn' vl' its2 inL2 ls' (LL ++ [[hd]])) (ar : Rf wx ox (R + 1) pa room n' free')
    (h1 : ∀ j, j ≤ n → j ≠ hd → its2.getD j itz = its.getD j itz) (h2 : its2.getD hd itz = x) (h3 : ∀ j, j ≤ n → j ≠ hd → inL2.getD j 0 = inL.getD j 0) (h4 : inL2.getD hd 0 = LL.length) :
    Rx wx ox R q room n' (M + 1) free' (upd it hd x) (upd S hd [hd]) pa vi' vn' vl' its2 inL2 ls' (LL ++ [[hd]]) := by
  have hne : ∀ k, Live n free k → k ≠ hd := fun k hk e => hno (e ▸ hk)
  have hm := h.many
  refine ⟨rm.blk, ar, rm.ri, rm.li, rm.rn, rm.ln, rm.rl, rm.ll, rm.rows, fun j hj => ?_, ?_, h.pl.make hno hv, hn', by simp; omega, by omega⟩
  · by_cases e : j = hd
    · subst e; rw [upd_same]; exact h2
    · have hj' := ((hv j).1 hj).resolve_left e
      rw [upd_other _ _ e, h1 j hj'.2.1 e]
      exact h.items j hj'
  · refine (h.rp.make hno).cong hv (fun _ _ => rfl) (fun j hj => ?_)
    by_cases e : j = hd
    · subst e; rw [upd_same]; exact h4
    · rw [upd_other _ _ e]; exact h3 j ((hj.resolve_left e).2.1) e
theorem x_make_bad (v : Int) (c : Bool) (f : Int) (hb : mayB v f = false) :
    Calls Try.prog 17 #[.pointer (some ⟨q, 0, none⟩), itemR v c f] w fun e w' => e = .returned (.tuple #[.int .i64 0, .int .i64 1]) ∧ Below w.heap.size w w' := by
  have c2 := fun wx => xmay_any wx (fun _ => 0) v c f
  rw [hb] at c2
  unfold itemR at c2 ⊢
  go_enter Try.func17, Try.ntmps17
  go_wp2_with fail
  refine (c2 _).mono ?_
  rintro e w2 ⟨rfl, s2⟩
  have Z := ((newB w (fun _ => 0) _).trans s2).below (fun _ _ => id)
  clear c2 s2
  go_wp2
  go_ret2
  exact ⟨rfl, Z⟩
theorem x_make_full (x : It) (h : Rx w o R q room n M free it S pa vi vn vl its inL ls LL) (hx : x.may) (hfull : n - free.length = room) :
    Calls Try.prog 17 #[.pointer (some ⟨q, 0, none⟩), itemV x] w fun e w' => e = .returned (.tuple #[.int .i64 0, .int .i64 30]) ∧ Below w.heap.size w w' := by
  have s1 := newStep (fun _ => False) w o (R + 9) (.cells #[.int .i64 x.v, .bool x.c, .int .i64 x.f] 36)
  have B1 : Blk (w.alloc (.cells #[.int .i64 x.v, .bool x.c, .int .i64 x.f] 36)) (newLab w o (R + 9)) (R + 9) w.heap.size (.cells #[.int .i64 x.v, .bool x.c, .int .i64 x.f] 36 (0, 0)) := ⟨heap_alloc_new w _, newLab_new (Nat.le_refl _)⟩
  have h1 := h.step s1 (fun _ _ => id)
  have c2 := fun wx => xmay_any wx (newLab w o (R + 9)) x.v x.c x.f
  rw [mayB_of x hx] at c2
  unfold itemR at c2
  unfold itemV
  go_enter Try.func17, Try.ntmps17
  go_wp2_with fail
  refine (c2 _).mono ?_
  rintro e w2 ⟨rfl, s2⟩
  have h2 := h1.step s2 (fun _ _ => id)
  have B2 := B1.step s2 id
  have S2 : Step (XL R) w o w2 (newLab w o (R + 9)) := (s1.trans s2).mono fun _ hh => hh.elim
  have c3 := refPutFull w2 _ (R + 1) pa room n free hfull h2.ar
  have Z := (s1.trans s2).below (fun _ _ => id)
  obtain ⟨d0, d1, d2, d3, hf⟩ := h2.blk.cells4
  clear h h1 h2 B1 B2 S2 c2 s1 s2
  go_wp2_with fail
  refine c3.mono ?_
  rintro e w3 ⟨rfl, m, e3⟩
  have Z3 : Below w.heap.size w w3 := by rw [e3]; exact ⟨Z.os, Z.tape, Z.output, Z.size, Z.block⟩
  clear e3 c3
  go_wp2
  go_ret2
  exact ⟨rfl, Z3⟩
set_option maxRecDepth 100000 in
set_option maxHeartbeats 2000000 in
theorem x_make_pop (hd : Nat) (fs : List Nat) (x : It) (h : Rx w o R q room n M (fs ++ [hd]) it S pa vi vn vl its inL ls LL) (hx : x.may) (hM : M < 5500000000000) :
    Calls Try.prog 17 #[.pointer (some ⟨q, 0, none⟩), itemV x] w fun e w' => e = .returned (.tuple #[.int .i64 (hd : Nat), .int .i64 0]) ∧ ∃ o' vi' vn' vl' its' inL' ls' LL', Rx w' o' R q room n (M + 1) fs (upd it hd x) (upd S hd [hd]) pa vi' vn' vl' its' inL' ls' LL' ∧ Step (XL R) w o w' o' := by
  have s1 := newStep (fun _ => False) w o (R + 9) (.cells #[.int .i64 x.v, .bool x.c, .int .i64 x.f] 36)
  have B1 : Blk (w.alloc (.cells #[.int .i64 x.v, .bool x.c, .int .i64 x.f] 36)) (newLab w o (R + 9)) (R + 9) w.heap.size (.cells #[.int .i64 x.v, .bool x.c, .int .i64 x.f] 36 (0, 0)) := ⟨heap_alloc_new w _, newLab_new (Nat.le_refl _)⟩
  have h1 := h.step s1 (fun _ _ => id)
  have c2 := fun wx => xmay_any wx (newLab w o (R + 9)) x.v x.c x.f
  rw [mayB_of x hx] at c2
  unfold itemR at c2
  unfold itemV
  go_enter Try.func17, Try.ntmps17
  go_wp2_with fail
  refine (c2 _).mono ?_
  rintro e w2 ⟨rfl, s2⟩
  have h2 := h1.step s2 (fun _ _ => id)
  have B2 := B1.step s2 id
  have S2 : Step (XL R) w o w2 (newLab w o (R + 9)) := (s1.trans s2).mono fun _ hh => hh.elim
  have hwf := h2.ar.wf
  have hkn : hd ≤ n := (hwf.mem hd (by simp)).2
  have hk1 : 1 ≤ hd := (hwf.mem hd (by simp)).1
  have hfn : hd ∉ fs := fun hm => (List.nodup_append.1 hwf.nodup).2.2 hd hm hd (by simp) rfl
  have c3 : Calls Try.prog 46 #[.pointer (some ⟨pa, 0, none⟩)] w2 fun e w' => e = .returned (.tuple #[.int .i64 (hd : Nat), .int .i64 0]) ∧ Rf w' (newLab w o (R + 9)) (R + 1) pa room n fs ∧ Step (RL (R + 1)) w2 (newLab w o (R + 9)) w' (newLab w o (R + 9)) := by
    obtain ⟨k, rfl⟩ : ∃ k, hd = k + 1 := ⟨hd - 1, by omega⟩
    exact refPutPop w2 _ (R + 1) pa room n fs k h2.ar
  obtain ⟨d0, d1, d2, d3, hf⟩ := h2.blk.cells4
  go_wp2_with fail
  refine c3.mono ?_
  rintro e wT ⟨rfl, AT, s3⟩
  have nM : ∀ l, ML R l → ¬ RL (R + 1) l := fun l hl hh => by have := hh.1; have := hh.2; unfold ML at hl; omega
  have MT := h2.rm.step s3 nM
  have BT := B2.step s3 (fun hh => by have := hh.2; omega)
  have ST := S2.trans (s3.mono fun l hl => by have := hl.1; have := hl.2; unfold XL; omega)
  have HX : Hid (Rx w o R q room n M (fs ++ [hd]) it S pa vi vn vl its inL ls LL) := h
  obtain ⟨gi, ci, rfl, -, hci, hm1, -, -, -⟩ := MT.ri.pos (by omega)
  obtain ⟨gn, cn, rfl, -, hcn, hm2, -, -, -⟩ := MT.rn.pos (by omega)
  unfold maxLen at hm1 hm2
  obtain ⟨d0', d1', d2', d3', hf'⟩ := MT.blk.cells4
  have hneq : ((hd : Int) == ((n : Int) + 1)) = false := by simp; omega
  clear h h1 h2 B1 B2 S2 c2 c3 s1 s2 s3 d0 d1 d2 d3 hf
  generalize newLab w o (R + 9) = oT at *
  generalize w.heap.size = bx at *
  obtain ⟨hi0, hcI, ciI⟩ : hd < n + 1 ∧ n + 1 ≤ ci ∧ n + 1 ≤ cn := ⟨by omega, hci, hcn⟩
  have hdI : (hd : Int) < (n : Int) + 1 := by omega
  obtain ⟨M4', s4'⟩ := MT.item hd x
  have fri : ∀ j, wT.frozen? ⟨gi, j, none⟩ = false := fun j => MT.ri.1.frozenAt j
  have hli := MT.li
  obtain ⟨_, _, e9, -, -, -, -, a3, -⟩ := MT.ri.pos (by omega)
  injection e9 with e9 z8 z9
  injection e9 with e9
  injection e9 with e9 z6 z7
  subst e9
  subst z9
  clear z8 z6 z7
  obtain ⟨p0, p1, p2⟩ := itcells_at its hd (by omega)
  obtain ⟨y, i5, i6, i7⟩ : ∃ y : It, wT.cell? ⟨gi, hd * 3, none⟩ = some (.int .i64 y.v) ∧ wT.cell? ⟨gi, hd * 3 + 1, none⟩ = some (.bool y.c) ∧ wT.cell? ⟨gi, hd * 3 + 2, none⟩ = some (.int .i64 (y.f : Nat)) := ⟨_, (a3 (hd * 3) (by omega)).trans p0, (a3 (hd * 3 + 1) (by omega)).trans p1, (a3 (hd * 3 + 2) (by omega)).trans p2⟩
  clear a3 p0 p1 p2
  have d4 := (Step.refl (fun _ => False) (((wT.setCell ⟨gi, hd * 3, none⟩ (.int .i64 x.v)).setCell ⟨gi, hd * 3 + 1, none⟩ (.bool x.c)).setCell ⟨gi, hd * 3 + 2, none⟩ (.int .i64 (x.f : Nat))) oT).drew
  have M4 := M4'.step d4 (fun _ _ => id)
  have s4 := s4'.trans (d4.mono fun _ hh => hh.elim)
  have B4 := BT.step s4 (by omega)
  have A4 := AT.step s4 (fun l hl => by have := hl.1; have := hl.2; omega)
  have S4 := ST.trans (s4.mono (J := XL R) fun l hl => by unfold XL; omega)
  obtain ⟨-, d1', -, -, -⟩ := M4.blk.cells4
  obtain ⟨b0', b1', b2', -⟩ := B4.cells3
  have dd := (Step.refl (fun _ => False) wT oT).drew
  obtain ⟨-, d1, -, -, -⟩ := (MT.step dd (fun _ _ => id)).blk.cells4
  obtain ⟨b0, b1, b2, -⟩ := (BT.step dd id).cells3
  clear dd d4 s4' M4' MT BT AT ST hli s4
  go_wp2_with fail
  go_region_held (fun wx => wx.cell? ⟨q, 1, none⟩ = some (.slice (some ⟨gi, 0, none⟩) (n + 1) ci) ∧ wx.cell? ⟨bx, 0, none⟩ = some (.int .i64 x.v) ∧ wx.cell? ⟨bx, 1, none⟩ = some (.bool x.c) ∧ wx.cell? ⟨bx, 2, none⟩ = some (.int .i64 x.f)) (first | (with_reducible exact ⟨d1, b0, b1, b2⟩) | (with_reducible exact ⟨d1', b0', b1', b2'⟩)) (fail)
  all_goals
    clear d1 b0 b1 b2 d1' b0' b1' b2' B4 i5 i6 i7 fri
    generalize (((wT.setCell ⟨gi, hd * 3, none⟩ (.int .i64 x.v)).setCell ⟨gi, hd * 3 + 1, none⟩ (.bool x.c)).setCell ⟨gi, hd * 3 + 2, none⟩ (.int .i64 (x.f : Nat))).drew = w4 at *
    obtain ⟨al, cl, rfl⟩ := M4.rl.form
    have hln := M4.ln
    have hmany := M4.many
    obtain ⟨M5', s5'⟩ := M4.inn hd LL.length
    have frn : ∀ j, w4.frozen? ⟨gn, j, none⟩ = false := fun j => M4.rn.1.frozenAt j
    obtain ⟨_, _, e9, -, -, -, -, a3, -⟩ := M4.rn.pos (by omega)
    injection e9 with e9 z8 z9
    injection e9 with e9
    injection e9 with e9 z6 z7
    subst e9
    subst z9
    clear z8 z6 z7
    obtain ⟨y2, i8⟩ : ∃ y2 : Nat, w4.cell? ⟨gn, hd, none⟩ = some (.int .i64 (y2 : Nat)) := ⟨_, (a3 hd (by omega)).trans (intsL_get _ hd (by omega))⟩
    clear a3
    have d5 := (Step.refl (fun _ => False) (w4.setCell ⟨gn, hd, none⟩ (.int .i64 (LL.length : Nat))) oT).drew
    have M5 := M5'.step d5 (fun _ _ => id)
    have s5 := s5'.trans (d5.mono fun _ hh => hh.elim)
    have A5 := A4.step s5 (fun l hl => by have := hl.1; have := hl.2; omega)
    have S5 := S4.trans (s5.mono (J := XL R) fun l hl => by unfold XL; omega)
    obtain ⟨-, -, d2n, d3n, -⟩ := M5.blk.cells4
    have dd := (Step.refl (fun _ => False) w4 oT).drew
    obtain ⟨-, -, d2o, d3o, -⟩ := (M4.step dd (fun _ _ => id)).blk.cells4
    clear dd d5 s5' M5' M4 A4 S4 s5 hln
    go_wp2_with fail
    go_region_held (fun wx => wx.cell? ⟨q, 2, none⟩ = some (.slice (some ⟨gn, 0, none⟩) (n + 1) cn) ∧ wx.cell? ⟨q, 3, none⟩ = some (.slice al LL.length cl)) (first | (with_reducible exact ⟨d2o, d3o⟩) | (with_reducible exact ⟨d2n, d3n⟩)) (fail)
    all_goals
      clear d2o d3o d2n d3n i8 frn
      generalize (w4.setCell ⟨gn, hd, none⟩ (.int .i64 (LL.length : Nat))).drew = w5 at *
      obtain ⟨d0, d1, d2, d3, hf⟩ := M5.blk.cells4
      have sN := newStep (fun _ => False) w5 oT (R + 10 + LL.length) (.cells #[.int .i64 (hd : Nat)] 3)
      have rN : Row _ _ (R + 10 + LL.length) 3 1 _ 1 (intsL [hd]) := Row.made3 (w := w5) (o := oT) (i := R + 10 + LL.length) (n := 1) (e := 3) (size := 1) (X := #[.int .i64 (hd : Nat)]) rfl rfl (by unfold maxLen; omega)
      have sO := sN.trans (allocStep (fun _ => False) (w5.alloc (.cells #[.int .i64 (hd : Nat)] 3)) (newLab w5 oT (R + 10 + LL.length)) (.cells #[.slice (some ⟨w5.heap.size, 0, none⟩) 1 1] 60))
      have rlO := M5.rl.step sO id
      obtain ⟨il, hil, hzl0, hzl1, hzl2⟩ := info_parts infoSl3
      have hll := M5.ll
      have bb : LL.length + 1 ≤ maxLen := by unfold maxLen; omega
      go_wp2_with (first | (at_builtin; refine wpList_append_lab rfl (.tmp 71) (.tmp 74) 32 rfl 60 il (.slice none 0 0) 1 24 Try.underlying32 hil hzl0 hzl1 hzl2 rfl (by decide) (newLab w5 oT (R + 10 + LL.length)) (R + 6) _ LL.length ls rfl rlO ⟨w5.heap.size + 1, 0, none⟩ 1 1 [.slice (some ⟨w5.heap.size, 0, none⟩) 1 1] rfl rfl (new_one_at (by simp) _ _) (by intro u hu; simp at hu; subst hu; rfl) (by decide) bb (by omega) ?_) | go_in)
      intro g6 cap6 w6 o6 r6 s6
      have hmy := HX.out.many
      obtain ⟨M7, s7⟩ := M5.pushed (by omega) (sO.mono fun _ hh => hh.elim) (rN.step (allocStep (fun _ => False) (w5.alloc (.cells #[.int .i64 (hd : Nat)] 3)) (newLab w5 oT (R + 10 + LL.length)) (.cells #[.slice (some ⟨w5.heap.size, 0, none⟩) 1 1] 60)) id) r6 s6
      have b6 := (M5.blk.step sO id).step s6 (by omega)
      have A6 := (A5.step sO (fun _ _ => id)).step s6 (fun l hl => by have := hl.1; have := hl.2; omega)
      have A7 := A6.step (setStep (fun l => l = R) w6 o6 ⟨q, 3, none⟩ (.slice (some ⟨g6, 0, none⟩) (LL.length + 1) cap6) b6.2) (fun l hl => by have := hl.1; have := hl.2; omega)
      have S7 := S5.trans s7
      obtain ⟨d0, d1, d2, d3, hf⟩ := b6.cells4
      have X7 := HX.out.made (n' := n) (free' := fs) (hd := hd) (x := x) (fun j => ⟨fun hj => by by_cases e : j = hd; exact .inl e; exact .inr ⟨hj.1, hj.2.1, by simp; exact ⟨hj.2.2, e⟩⟩, fun hj => by rcases hj with rfl | hj; exact ⟨hk1, hkn, hfn⟩; exact ⟨hj.1, hj.2.1, fun hm => hj.2.2 (by simp [hm])⟩⟩) (fun hj => hj.2.2 (by simp)) HX.out.small hM M7 A7 (fun j _ hj => getD_set_other _ _ _ _ _ hj) (getD_set_same _ _ _ _ (by have := HX.out.li; omega)) (fun j _ hj => getD_set_other _ _ _ _ _ hj) (getD_set_same _ _ _ _ (by have := HX.out.ln; omega))
      clear M5 A5 S5 sN rN sO rlO r6 s6 M7 s7 b6 A6 A7 HX
      go_wp2
      go_ret2
      exact ⟨rfl, _, _, _, _, _, _, _, _, X7, S7⟩
set_option maxRecDepth 100000 in
set_option maxHeartbeats 2000000 in
theorem x_make_push (hd : Nat) (x : It) (h : Rx w o R q room n M [] it S pa vi vn vl its inL ls LL) (hx : x.may) (hM : M < 5500000000000) (hroom : n < room) (hr : room ≤ 1024) (hdn : hd = n + 1) :
    Calls Try.prog 17 #[.pointer (some ⟨q, 0, none⟩), itemV x] w fun e w' => e = .returned (.tuple #[.int .i64 (hd : Nat), .int .i64 0]) ∧ ∃ o' vi' vn' vl' its' inL' ls' LL', Rx w' o' R q room hd (M + 1) [] (upd it hd x) (upd S hd [hd]) pa vi' vn' vl' its' inL' ls' LL' ∧ Step (XL R) w o w' o' := by
  have s1 := newStep (fun _ => False) w o (R + 9) (.cells #[.int .i64 x.v, .bool x.c, .int .i64 x.f] 36)
  have B1 : Blk (w.alloc (.cells #[.int .i64 x.v, .bool x.c, .int .i64 x.f] 36)) (newLab w o (R + 9)) (R + 9) w.heap.size (.cells #[.int .i64 x.v, .bool x.c, .int .i64 x.f] 36 (0, 0)) := ⟨heap_alloc_new w _, newLab_new (Nat.le_refl _)⟩
  have h1 := h.step s1 (fun _ _ => id)
  have c2 := fun wx => xmay_any wx (newLab w o (R + 9)) x.v x.c x.f
  rw [mayB_of x hx] at c2
  unfold itemR at c2
  unfold itemV
  go_enter Try.func17, Try.ntmps17
  go_wp2_with fail
  refine (c2 _).mono ?_
  rintro e w2 ⟨rfl, s2⟩
  have h2 := h1.step s2 (fun _ _ => id)
  have B2 := B1.step s2 id
  have S2 : Step (XL R) w o w2 (newLab w o (R + 9)) := (s1.trans s2).mono fun _ hh => hh.elim
  have c3 : Calls Try.prog 46 #[.pointer (some ⟨pa, 0, none⟩)] w2 fun e w' => e = .returned (.tuple #[.int .i64 (hd : Nat), .int .i64 0]) ∧ ∃ o', Rf w' o' (R + 1) pa room hd [] ∧ Step (RL (R + 1)) w2 (newLab w o (R + 9)) w' o' := by
    rw [hdn]
    exact refPutPush w2 _ (R + 1) pa room n hroom h2.ar
  have m2 : Rm w2 (newLab w o (R + 9)) R q hd pa vi vn vl its inL ls LL := by
    rw [hdn]
    exact h2.rm
  have hsm := h.small
  have EQN : Hid (hd = n + 1) := hdn
  have hdb : 0 < hd ∧ hd ≤ 1024 := by omega
  obtain ⟨hd0, hd1⟩ := hdb
  obtain ⟨d0, d1, d2, d3, hf⟩ := h2.blk.cells4
  clear hdn
  go_wp2_with fail
  refine c3.mono ?_
  rintro e wP ⟨rfl, oP, AP, s3⟩
  have nM : ∀ l, ML R l → ¬ RL (R + 1) l := fun l hl hh => by have := hh.1; have := hh.2; unfold ML at hl; omega
  have MP := m2.step s3 nM
  have BP := B2.step s3 (fun hh => by have := hh.2; omega)
  have SP := S2.trans (s3.mono fun l hl => by have := hl.1; have := hl.2; unfold XL; omega)
  have HX : Hid (Rx w o R q room n M [] it S pa vi vn vl its inL ls LL) := h
  obtain ⟨gj, cj, rfl, -, hcj, hm1, -, -, -⟩ := MP.ri.pos (by omega)
  obtain ⟨gm, cm, rfl, -, hcm, hm2, -, -, -⟩ := MP.rn.pos (by omega)
  unfold maxLen at hm1 hm2
  obtain ⟨d0', d1', d2', d3', hf'⟩ := MP.blk.cells4
  obtain ⟨b0, b1, b2, -⟩ := BP.cells3
  obtain ⟨ii, hii, hzi0, hzi1, hzi2⟩ := info_parts infoItem3
  obtain ⟨ij, hij, hzj0, hzj1, hzj2⟩ := info_parts infoInt
  clear h h1 h2 m2 B1 B2 S2 c2 c3 s1 s2 s3 d0 d1 d2 d3 hf hx
  generalize w.heap.size = bx at *
  have lb1 : hd + 1 ≤ maxLen := by unfold maxLen; omega
  have da := (MP.blk.step (allocStep (fun _ => False) wP oP (.cells #[.int .i64 x.v, .bool x.c, .int .i64 (x.f : Nat)] 36)) id).cells4.2.1
  go_wp2_with fail
  go_region_law (refine step_append_lab rfl (.tmp 34) (.tmp 36) 59 rfl 36 ii (.agg #[.int .i64 0, .bool false, .int .i64 0]) 3 24 Try.underlying59 hii hzi0 hzi1 hzi2 rfl (by decide) oP (R + 4) (.slice (some ⟨gj, 0, none⟩) hd cj) hd (itcells its) (by simp [Act.eval]) (MP.ri.step (((Step.refl (fun _ => False) wP oP).alloc _).drew) id) ⟨wP.heap.size, 0, none⟩ 1 1 [.int .i64 x.v, .bool x.c, .int .i64 (x.f : Nat)] (by simp [Act.eval]) rfl (new_three3 (by simp) _ _ _ _) (by intro u hu; simp at hu; rcases hu with rfl | rfl | rfl <;> rfl) (by decide) lb1 (by omega) ?_; intro gi ci w8 o8 r8 s8; have t8 := (((Step.refl (fun k => k = R + 4) wP oP).alloc (.cells #[.int .i64 x.v, .bool x.c, .int .i64 (x.f : Nat)] 36)).drew).trans s8; obtain ⟨f0, f1, f2, f3, ff⟩ := (MP.blk.step t8 (by omega)).cells4)
  all_goals
    clear f0 f1 f2 f3 ff s8 da d0' d1' d2' d3' hf' b0 b1 b2
    have b8 := MP.blk.step t8 (by omega)
    have t9 := setStep (fun k => k = R) w8 o8 ⟨q, 1, none⟩ (.slice (some ⟨gi, 0, none⟩) (hd + 1) ci) b8.2
    have b9 := b8.set 1 (.slice (some ⟨gi, 0, none⟩) (hd + 1) ci)
    have rn9 := (MP.rn.step t8 (by omega)).step t9 (by omega)
    have B9 := (BP.step t8 (by omega)).step t9 (by omega)
    have A9 := (AP.step t8 (fun l hl => by have := hl.1; have := hl.2; omega)).step t9 (fun l hl => by have := hl.1; have := hl.2; omega)
    have HG : Hid (∀ w2 o2 gn cn, Row w2 o2 (R + 5) 3 1 (.slice (some ⟨gn, 0, none⟩) (hd + 1) cn) (hd + 1) (intsL inL ++ [.int .i64 0]) → Step (fun k => k = R + 5) (w8.setCell ⟨q, 1, none⟩ (.slice (some ⟨gi, 0, none⟩) (hd + 1) ci)) o8 w2 o2 → Rm (w2.setCell ⟨q, 2, none⟩ (.slice (some ⟨gn, 0, none⟩) (hd + 1) cn)) o2 R q (hd + 1) pa (.slice (some ⟨gi, 0, none⟩) (hd + 1) ci) (.slice (some ⟨gn, 0, none⟩) (hd + 1) cn) vl (its ++ [x]) (inL ++ [0]) ls LL ∧ Step (XL R) wP oP (w2.setCell ⟨q, 2, none⟩ (.slice (some ⟨gn, 0, none⟩) (hd + 1) cn)) o2) := fun w2 o2 gn cn rb s2 => MP.grown r8 t8 rb s2
    clear t8 t9 b8 r8 MP BP AP
    generalize w8.setCell ⟨q, 1, none⟩ (.slice (some ⟨gi, 0, none⟩) (hd + 1) ci) = w9 at *
    obtain ⟨e0, e1, e2, e3, ef⟩ := b9.cells4
    go_wp2_with (first | (at_builtin; refine wpList_append_lab rfl (.tmp 44) (.tmp 45) 60 rfl 3 ij (.int .i64 0) 1 8 Try.underlying60 hij hzj0 hzj1 hzj2 rfl (by decide) o8 (R + 5) _ hd (intsL inL) rfl (rn9.step (allocStep (fun _ => False) _ o8 _) id) ⟨w9.heap.size, 0, none⟩ 1 1 [.int .i64 0] rfl rfl (new_one_at (by simp) _ _) (by intro u hu; simp at hu; subst hu; rfl) (by decide) lb1 (by omega) ?_) | go_in)
    intro gn cn wA oT rA sA
    have tA := (allocStep (fun k => k = R + 5) w9 o8 (.cells #[.int .i64 0] 3)).trans sA
    obtain ⟨MT, sT⟩ := HG.out _ _ _ _ rA tA
    have bA := b9.step tA (by omega)
    have tB := setStep (fun k => k = R) wA oT ⟨q, 2, none⟩ (.slice (some ⟨gn, 0, none⟩) (hd + 1) cn) bA.2
    have BT := (B9.step tA (by omega)).step tB (by omega)
    have AT := (A9.step tA (fun l hl => by have := hl.1; have := hl.2; omega)).step tB (fun l hl => by have := hl.1; have := hl.2; omega)
    have ST := SP.trans sT
    obtain ⟨e0, e1, e2, e3, ef⟩ := bA.cells4
    obtain ⟨hci, hm3⟩ := MT.ri.caps (by omega)
    obtain ⟨hcn, hm4⟩ := MT.rn.caps (by omega)
    clear HG rA sA tA tB bA sT B9 A9 b9 rn9 SP
    go_upto_region 10 with fail
    generalize wA.setCell ⟨q, 2, none⟩ (.slice (some ⟨gn, 0, none⟩) (hd + 1) cn) = wT at *
    clear e0 e1 e2 e3 ef
    obtain ⟨hi0, hcI, ciI⟩ : hd < hd + 1 ∧ hd + 1 ≤ ci ∧ hd + 1 ≤ cn := ⟨by omega, hci, hcn⟩
    have hdI : (hd : Int) < (hd : Int) + 1 := by omega
    obtain ⟨M4', s4'⟩ := MT.item hd x
    have fri : ∀ j, wT.frozen? ⟨gi, j, none⟩ = false := fun j => MT.ri.1.frozenAt j
    have hli := MT.li
    obtain ⟨_, _, e9, -, -, -, -, a3, -⟩ := MT.ri.pos (by omega)
    injection e9 with e9 z8 z9
    injection e9 with e9
    injection e9 with e9 z6 z7
    subst e9
    subst z9
    clear z8 z6 z7
    obtain ⟨p0, p1, p2⟩ := itcells_at (its ++ [x]) hd (by omega)
    obtain ⟨y, i5, i6, i7⟩ : ∃ y : It, wT.cell? ⟨gi, hd * 3, none⟩ = some (.int .i64 y.v) ∧ wT.cell? ⟨gi, hd * 3 + 1, none⟩ = some (.bool y.c) ∧ wT.cell? ⟨gi, hd * 3 + 2, none⟩ = some (.int .i64 (y.f : Nat)) := ⟨_, (a3 (hd * 3) (by omega)).trans p0, (a3 (hd * 3 + 1) (by omega)).trans p1, (a3 (hd * 3 + 2) (by omega)).trans p2⟩
    clear a3 p0 p1 p2
    have d4 := (Step.refl (fun _ => False) (((wT.setCell ⟨gi, hd * 3, none⟩ (.int .i64 x.v)).setCell ⟨gi, hd * 3 + 1, none⟩ (.bool x.c)).setCell ⟨gi, hd * 3 + 2, none⟩ (.int .i64 (x.f : Nat))) oT).drew
    have M4 := M4'.step d4 (fun _ _ => id)
    have s4 := s4'.trans (d4.mono fun _ hh => hh.elim)
    have B4 := BT.step s4 (by omega)
    have A4 := AT.step s4 (fun l hl => by have := hl.1; have := hl.2; omega)
    have S4 := ST.trans (s4.mono (J := XL R) fun l hl => by unfold XL; omega)
    obtain ⟨-, d1', -, -, -⟩ := M4.blk.cells4
    obtain ⟨b0', b1', b2', -⟩ := B4.cells3
    have dd := (Step.refl (fun _ => False) wT oT).drew
    obtain ⟨-, d1, -, -, -⟩ := (MT.step dd (fun _ _ => id)).blk.cells4
    obtain ⟨b0, b1, b2, -⟩ := (BT.step dd id).cells3
    clear dd d4 s4' M4' MT BT AT ST hli s4
    go_wp2_with fail
    go_region_held (fun wx => wx.cell? ⟨q, 1, none⟩ = some (.slice (some ⟨gi, 0, none⟩) (hd + 1) ci) ∧ wx.cell? ⟨bx, 0, none⟩ = some (.int .i64 x.v) ∧ wx.cell? ⟨bx, 1, none⟩ = some (.bool x.c) ∧ wx.cell? ⟨bx, 2, none⟩ = some (.int .i64 x.f)) (first | (with_reducible exact ⟨d1, b0, b1, b2⟩) | (with_reducible exact ⟨d1', b0', b1', b2'⟩)) (fail)
    all_goals
      clear d1 b0 b1 b2 d1' b0' b1' b2' B4 i5 i6 i7 fri
      generalize (((wT.setCell ⟨gi, hd * 3, none⟩ (.int .i64 x.v)).setCell ⟨gi, hd * 3 + 1, none⟩ (.bool x.c)).setCell ⟨gi, hd * 3 + 2, none⟩ (.int .i64 (x.f : Nat))).drew = w4 at *
      obtain ⟨al, cl, rfl⟩ := M4.rl.form
      have hln := M4.ln
      have hmany := M4.many
      obtain ⟨M5', s5'⟩ := M4.inn hd LL.length
      have frn : ∀ j, w4.frozen? ⟨gn, j, none⟩ = false := fun j => M4.rn.1.frozenAt j
      obtain ⟨_, _, e9, -, -, -, -, a3, -⟩ := M4.rn.pos (by omega)
      injection e9 with e9 z8 z9
      injection e9 with e9
      injection e9 with e9 z6 z7
      subst e9
      subst z9
      clear z8 z6 z7
      obtain ⟨y2, i8⟩ : ∃ y2 : Nat, w4.cell? ⟨gn, hd, none⟩ = some (.int .i64 (y2 : Nat)) := ⟨_, (a3 hd (by omega)).trans (intsL_get _ hd (by omega))⟩
      clear a3
      have d5 := (Step.refl (fun _ => False) (w4.setCell ⟨gn, hd, none⟩ (.int .i64 (LL.length : Nat))) oT).drew
      have M5 := M5'.step d5 (fun _ _ => id)
      have s5 := s5'.trans (d5.mono fun _ hh => hh.elim)
      have A5 := A4.step s5 (fun l hl => by have := hl.1; have := hl.2; omega)
      have S5 := S4.trans (s5.mono (J := XL R) fun l hl => by unfold XL; omega)
      obtain ⟨-, -, d2n, d3n, -⟩ := M5.blk.cells4
      have dd := (Step.refl (fun _ => False) w4 oT).drew
      obtain ⟨-, -, d2o, d3o, -⟩ := (M4.step dd (fun _ _ => id)).blk.cells4
      clear dd d5 s5' M5' M4 A4 S4 s5 hln
      go_wp2_with fail
      go_region_held (fun wx => wx.cell? ⟨q, 2, none⟩ = some (.slice (some ⟨gn, 0, none⟩) (hd + 1) cn) ∧ wx.cell? ⟨q, 3, none⟩ = some (.slice al LL.length cl)) (first | (with_reducible exact ⟨d2o, d3o⟩) | (with_reducible exact ⟨d2n, d3n⟩)) (fail)
      all_goals
        clear d2o d3o d2n d3n i8 frn
        generalize (w4.setCell ⟨gn, hd, none⟩ (.int .i64 (LL.length : Nat))).drew = w5 at *
        obtain ⟨d0, d1, d2, d3, hf⟩ := M5.blk.cells4
        have sN := newStep (fun _ => False) w5 oT (R + 10 + LL.length) (.cells #[.int .i64 (hd : Nat)] 3)
        have rN : Row _ _ (R + 10 + LL.length) 3 1 _ 1 (intsL [hd]) := Row.made3 (w := w5) (o := oT) (i := R + 10 + LL.length) (n := 1) (e := 3) (size := 1) (X := #[.int .i64 (hd : Nat)]) rfl rfl (by unfold maxLen; omega)
        have sO := sN.trans (allocStep (fun _ => False) (w5.alloc (.cells #[.int .i64 (hd : Nat)] 3)) (newLab w5 oT (R + 10 + LL.length)) (.cells #[.slice (some ⟨w5.heap.size, 0, none⟩) 1 1] 60))
        have rlO := M5.rl.step sO id
        obtain ⟨il, hil, hzl0, hzl1, hzl2⟩ := info_parts infoSl3
        have hll := M5.ll
        have bb : LL.length + 1 ≤ maxLen := by unfold maxLen; omega
        go_wp2_with (first | (at_builtin; refine wpList_append_lab rfl (.tmp 71) (.tmp 74) 32 rfl 60 il (.slice none 0 0) 1 24 Try.underlying32 hil hzl0 hzl1 hzl2 rfl (by decide) (newLab w5 oT (R + 10 + LL.length)) (R + 6) _ LL.length ls rfl rlO ⟨w5.heap.size + 1, 0, none⟩ 1 1 [.slice (some ⟨w5.heap.size, 0, none⟩) 1 1] rfl rfl (new_one_at (by simp) _ _) (by intro u hu; simp at hu; subst hu; rfl) (by decide) bb (by omega) ?_) | go_in)
        intro g6 cap6 w6 o6 r6 s6
        have hmy := HX.out.many
        obtain ⟨M7, s7⟩ := M5.pushed (by omega) (sO.mono fun _ hh => hh.elim) (rN.step (allocStep (fun _ => False) (w5.alloc (.cells #[.int .i64 (hd : Nat)] 3)) (newLab w5 oT (R + 10 + LL.length)) (.cells #[.slice (some ⟨w5.heap.size, 0, none⟩) 1 1] 60)) id) r6 s6
        have b6 := (M5.blk.step sO id).step s6 (by omega)
        have A6 := (A5.step sO (fun _ _ => id)).step s6 (fun l hl => by have := hl.1; have := hl.2; omega)
        have A7 := A6.step (setStep (fun l => l = R) w6 o6 ⟨q, 3, none⟩ (.slice (some ⟨g6, 0, none⟩) (LL.length + 1) cap6) b6.2) (fun l hl => by have := hl.1; have := hl.2; omega)
        have S7 := S5.trans s7
        obtain ⟨d0, d1, d2, d3, hf⟩ := b6.cells4
        have hdn := EQN.out
        have X7 := HX.out.made (n' := hd) (free' := []) (hd := hd) (x := x) (fun j => ⟨fun hj => by by_cases e : j = hd; exact .inl e; exact .inr ⟨hj.1, by have := hj.2.1; omega, by simp⟩, fun hj => by rcases hj with rfl | hj; exact ⟨by omega, by omega, by simp⟩; exact ⟨hj.1, by have := hj.2.1; omega, by simp⟩⟩) (fun hj => by have := hj.2.1; omega) (by omega) hM M7 A7 (fun j hjn hj => (getD_set_other (its ++ [x]) x itz hd j hj).trans (getD_snoc_old its x itz j (by have := HX.out.li; omega))) (getD_set_same (its ++ [x]) x itz hd (by have := HX.out.li; simp; omega)) (fun j hjn hj => (getD_set_other (inL ++ [0]) LL.length 0 hd j hj).trans (getD_snoc_old inL 0 0 j (by have := HX.out.ln; omega))) (getD_set_same (inL ++ [0]) LL.length 0 hd (by have := HX.out.ln; simp; omega))
        clear M5 A5 S5 sN rN sO rlO r6 s6 M7 s7 b6 A6 A7 HX
        go_wp2
        go_ret2
        exact ⟨rfl, _, _, _, _, _, _, _, _, X7, S7⟩
end
end Go.Proofs.Ythdmajddmajjoaa
