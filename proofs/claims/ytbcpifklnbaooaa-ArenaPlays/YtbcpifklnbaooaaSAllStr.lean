/- One side of the law ArenaPlays (string): one call of a script, of kind 6 (All). -/
import Derived.Test.YtbcpifklnbaooaaStepStr
import Derived.Test.YtbcpifklnbaooaaSideMore
namespace Go.Proofs.Ytbcpifklnbaooaa
open Go.ChangeShapes Go.WideShapes Go.ChangeAt Go.RowKit
set_option linter.unusedVariables false

set_option maxRecDepth 100000 in
set_option maxHeartbeats 2000000 in
theorem stepAllNewStr (w : World) (o : Nat → Nat) (S ps room n : Nat) (ts : List ByteArray) (free : List Nat) (kept : List ByteArray) (als wls : List Value) (ls : List (List Nat)) (x y : Int) (b : Bool) (v : ByteArray) (hN : ls.length < 30) (h : SideStr w o S ps room n ts free kept als wls ls) :
    Calls Try.prog 10 #[.pointer (some ⟨ps, 0, none⟩), opStr 6 x y b, Value.string v] w fun e w' => e = .returned (.bool true) ∧ ∃ o', SideXStr w' o' S ps ∧ Step (SL S) w o w' o' := by
  obtain ⟨pa, px, vk, va, vw, h0, hAr, hR, hK, hk, hAl, hWl, hL⟩ := h
  have hla := hL.la
  have hlw := hL.lw
  obtain ⟨N, hNe⟩ : ∃ N, N = ls.length := ⟨_, rfl⟩
  have eA : als.length = N := by omega
  have eW : wls.length = N := by omega
  rw [eA] at hAl
  rw [eW] at hWl
  rw [← hNe] at hN
  have hn : n ≤ 4096 := Nat.le_trans hAr.wf.le hAr.wf.room
  obtain ⟨l, hl⟩ : ∃ l, l = allL n free := ⟨_, rfl⟩
  have hll : l.length ≤ 4096 := by rw [hl]; exact Nat.le_trans (allL_le n free) hn
  obtain ⟨M, hM⟩ : ∃ M, M = l.length := ⟨_, rfl⟩
  have hM2 : M ≤ 4096 := by omega
  have a1 := fun wx hh => allStr wx o (S + 1) pa room n (S + 20 + N) (valsStr ts) free (by unfold IL; omega) hh
  rw [← hl, ← hM] at a1
  have r1 := fun wx ox lb hlb hh => refAll wx ox (S + 5) px room n lb free hlb hh
  rw [← hl, ← hM] at r1
  have HNe : Hid (N = ls.length) := hNe
  have HM : Hid (M = l.length) := hM
  have HLL : Hid (l.length ≤ 4096) := hll
  have HW : Hid (WF room n free) := hAr.wf
  obtain ⟨is, his, hzs0, hzs1, hzs2⟩ := info_parts infoSl
  have sB := fun ob => allocStep (fun _ => False) w o ob
  have f0 := fun ob => h0.step (sB ob) id
  have fA := fun ob => hAr.step (sB ob) (fun _ _ => id)
  have fR := fun ob => hR.step (sB ob) (fun _ _ => id)
  have fK := fun ob => hK.step (sB ob) id
  have fAl := fun ob => hAl.step (sB ob) id
  have fW := fun ob => hWl.step (sB ob) id
  have fL := fun ob => hL.step (sB ob) (fun _ _ _ => id)
  have hp := h0.lt
  obtain ⟨c0, c1, c2, c3, c4, hf⟩ := h0.cells5
  have hfm := hAl.form
  obtain ⟨ava, cva, rfl⟩ := hfm
  have hfm := hWl.form
  obtain ⟨avw, cvw, rfl⟩ := hfm
  clear hl hM hll hNe h0 hAr hR hK hAl hWl hL hla hlw eA eW
  go_enter Try.func10, Try.ntmps10
  go_wp2_with fail
  refine (a1 _ (fA _)).mono ?_
  rintro e w1 ⟨gl, cl, o1, rfl, rl, s1⟩
  have g0 := Blk.step (f0 _) s1 (by omega)
  have gA := Ar.step (fA _) s1 (by unfold IL; omega)
  have gR := Rf.step (fR _) s1 (by unfold RL; omega)
  have gK := Row.step (fK _) s1 (by omega)
  have gAl := Row.step (fAl _) s1 (by omega)
  have gW := Row.step (fW _) s1 (by omega)
  have gL := Lists.stepN (fL _) s1 (fun i hi => by have := HNe.out; omega)
  have t1 : Step (SL S) w o w1 o1 := ((sB _).mono (fun _ h => h.elim)).trans (s1.mono fun k hk => SL.mk (by omega) (by omega))
  clear f0 fA fR fK fAl fW fL sB s1 a1 c0 c1 c2 c3 c4 hf
  obtain ⟨c0, c1, c2, c3, c4, hf⟩ := g0.cells5
  have b1 : N + 1 ≤ maxLen := by unfold maxLen; omega
  go_wp2_with (first | (at_builtin; refine wpList_append_lab rfl (.tmp 75) (.tmp 77) 36 rfl 35 is (.slice none 0 0) 1 24 Try.underlying36 his hzs0 hzs1 hzs2 rfl (by decide) o1 (S + 9) _ N als rfl (gAl.step (allocStep (fun _ => False) _ o1 _) (by simp)) ⟨w1.heap.size, 0, none⟩ 1 1 [.slice (some ⟨gl, 0, none⟩) M cl] rfl rfl (new_one_at (by simp) _ _) (by intro u hu; simp at hu; subst hu; rfl) (by decide) b1 (by omega) ?_) | go_in)
  intro g2 c2' w2 o2 r2 s2
  have t2 := (allocStep (fun x => x = S + 9) w1 o1 _).trans s2
  have q0 := g0.step t2 (by omega)
  have s3 := setStep (fun x => x = S) w2 o2 ⟨ps, 3, none⟩ (.slice (some ⟨g2, 0, none⟩) (N + 1) c2') q0.2
  have k0 := q0.set 3 (.slice (some ⟨g2, 0, none⟩) (N + 1) c2')
  have kA := (gA.step t2 (by unfold IL; omega)).step s3 (by unfold IL; omega)
  have kR := (gR.step t2 (by unfold RL; omega)).step s3 (by unfold RL; omega)
  have kK := (gK.step t2 (by omega)).step s3 (by omega)
  have kAl := r2.step s3 (by omega)
  have kW := (gW.step t2 (by omega)).step s3 (by omega)
  have kl := (rl.step t2 (by omega)).step s3 (by omega)
  have kL := (gL.step t2 (by omega)).step s3 (by omega)
  have t3 : Step (SL S) w o (w2.setCell ⟨ps, 3, none⟩ (.slice (some ⟨g2, 0, none⟩) (N + 1) c2')) o2 := (t1.trans (t2.mono fun k hk => SL.mk (by omega) (by omega))).trans (s3.mono fun k hk => SL.mk (by omega) (by omega))
  obtain ⟨d0, d1, d2, d3, d4, hfd⟩ := q0.cells5
  clear g0 gA gR gK gAl gW gL t1 t2 s2 r2 rl q0 s3 c0 c1 c2 c3 c4 hf
  go_wp2_with fail
  generalize w2.setCell ⟨ps, 3, none⟩ (.slice (some ⟨g2, 0, none⟩) (N + 1) c2') = w3 at k0 kA kR kK kAl kW kl kL t3 ⊢
  clear d0 d1 d2 d3 d4 hfd
  obtain ⟨d0, d1, d2, d3, d4, hfd⟩ := Blk.cells5 k0
  have kRd : Rf w3.drew o2 (S + 5) px room n free := kR
  have lb1 : ¬ RL (S + 5) (S + 60 + N) := by unfold RL; omega
  have b2 : (N + 1) * 24 ≤ 140737488355328 := by omega
  go_region_law (first | (go_simp; go_at_call 38; refine (r1 _ o2 (S + 60 + N) lb1 kRd).mono ?_; rintro e w4 ⟨aw, cw4, rfl, o4, rw4, s4⟩; have hp4 := (Blk.step k0 ((Step.refl _ w3 o2).drew.trans s4) (by omega)).lt; obtain ⟨e0, e1, e2, e3, e4, hfe⟩ := (Blk.step k0 ((Step.refl _ w3 o2).drew.trans s4) (by omega)).cells5) | (refine step_append_lab rfl (.tmp 85) (.tmp 91) 36 rfl 35 is (.slice none 0 0) 1 24 Try.underlying36 his hzs0 hzs1 hzs2 rfl (by decide) o4 (S + 10) _ N wls (by simp [Act.eval]) ((kW.step ((Step.refl (fun x => x = S + 60 + N) w3 o2).drew.trans s4) (by omega)).step (allocStep (fun _ => False) w4 o4 _) (by simp)) ⟨w4.heap.size, 0, none⟩ 1 1 [.slice aw M cw4] (by simp [Act.eval]) rfl (new_one_at (by simp) _ _) (one_slice _ _ _) (by decide) b1 b2 ?_; intro g5 c5 w5 o5 r5 s5; obtain ⟨f0, f1, f2, f3, f4, hff⟩ := (Blk.step (Blk.step k0 ((Step.refl _ w3 o2).drew.trans s4) (by omega)) ((allocStep (fun x => x = S + 10) w4 o4 _).trans s5) (by omega)).cells5))
  all_goals
    have u4 : Step (fun x => x = S + 60 + N) w3 o2 w4 o4 := (Step.refl _ w3 o2).drew.trans s4
    have u5 : Step (fun x => x = S + 10) w4 o4 w5 o5 := (allocStep (fun x => x = S + 10) w4 o4 _).trans s5
    have q0 := (k0.step u4 (by omega)).step u5 (by omega)
    have s6 := setStep (fun x => x = S) w5 o5 ⟨ps, 4, none⟩ (.slice (some ⟨g5, 0, none⟩) (N + 1) c5) q0.2
    have m0 := q0.set 4 (.slice (some ⟨g5, 0, none⟩) (N + 1) c5)
    have mA := ((kA.step u4 (by unfold IL; omega)).step u5 (by unfold IL; omega)).step s6 (by unfold IL; omega)
    have mR := ((kR.step u4 (by unfold RL; omega)).step u5 (by unfold RL; omega)).step s6 (by unfold RL; omega)
    have mK := ((kK.step u4 (by omega)).step u5 (by omega)).step s6 (by omega)
    have mAl := ((kAl.step u4 (by omega)).step u5 (by omega)).step s6 (by omega)
    have mW := r5.step s6 (by omega)
    have ml := ((kl.step u4 (by omega)).step u5 (by omega)).step s6 (by omega)
    have mw := (rw4.step u5 (by omega)).step s6 (by omega)
    have mL := ((Lists.stepN kL u4 (fun i hi => by have := HNe.out; omega)).step u5 (by omega)).step s6 (by omega)
    have t6 : Step (SL S) w o (w5.setCell ⟨ps, 4, none⟩ (.slice (some ⟨g5, 0, none⟩) (N + 1) c5)) o5 := ((t3.trans (u4.mono fun k hk => SL.mk (by omega) (by omega))).trans (u5.mono fun k hk => SL.mk (by omega) (by omega))).trans (s6.mono fun k hk => SL.mk (by omega) (by omega))
    have mL2 := Lists.push mL (by rw [← HNe.out]; exact hN) HLL.out (by rw [← HNe.out, ← HM.out]; exact ml) (by rw [← HNe.out, ← HM.out]; exact mw)
    have hLa : N + 1 = (als ++ [Value.slice (some ⟨gl, 0, none⟩) M cl]).length := by rw [mL2.la, List.length_append, ← HNe.out]; rfl
    have hLw : N + 1 = (wls ++ [Value.slice aw M cw4]).length := by rw [mL2.lw, List.length_append, ← HNe.out]; rfl
    have F : SideStr (w5.setCell ⟨ps, 4, none⟩ (.slice (some ⟨g5, 0, none⟩) (N + 1) c5)) o5 S ps room n ts free kept _ _ _ := ⟨pa, px, vk, _, _, m0, mA, mR, mK, hk, by rw [← hLa]; exact mAl, by rw [← hLw]; exact mW, mL2⟩
    obtain ⟨z0, z1, z2, z3, z4, hfz⟩ := q0.cells5
    have lb2 : ¬ RL (S + 5) (S + 96) := by unfold RL; omega
    have hr6 := r1 _ o5 (S + 96) lb2 mR
    clear u4 u5 s6 m0 mA mK mAl mW mw mL mL2 hLa hLw q0 k0 kA kR kK kAl kW kl kL t3 rw4 r5 s4 s5 kRd r1 d0 d1 d2 d3 d4 hfd e0 e1 e2 e3 e4 hfe f0 f1 f2 f3 f4 hff
    go_wp2_with fail
    refine hr6.mono ?_
    rintro e w7 ⟨a7, c7, rfl, o7, r7, s7⟩
    have ml7 := ml.step s7 (by omega)
    have F7 := F.step s7 (by unfold SD; omega)
    have t7 := t6.trans (s7.mono fun k hk => SL.mk (by omega) (by omega))
    clear hr6 ml F t6 s7 mR z0 z1 z2 z3 z4 hfz
    go_wp2_with fail
    refine (same_yes w7 o7 o7 _ _ M l _ _ HM.out.symm (by omega) ml7 r7).mono ?_
    rintro e w8 ⟨rfl, m8, rfl⟩
    clear ml7 r7
    go_wp2
    go_ret
    exact ⟨rfl, o7, ⟨room, n, ts, free, kept, _, _, _, F7.step ((Step.refl (fun _ => False) w7 o7).drewN m8) (fun _ _ => id)⟩, t7.drewN m8⟩

set_option maxRecDepth 100000 in
set_option maxHeartbeats 2000000 in
theorem stepAllOldStr (w : World) (o : Nat → Nat) (S ps room n : Nat) (ts : List ByteArray) (free : List Nat) (kept : List ByteArray) (als wls : List Value) (ls : List (List Nat)) (x y : Int) (b : Bool) (v : ByteArray) (hN : ¬ ls.length < 30) (h : SideStr w o S ps room n ts free kept als wls ls) :
    Calls Try.prog 10 #[.pointer (some ⟨ps, 0, none⟩), opStr 6 x y b, Value.string v] w fun e w' => e = .returned (.bool true) ∧ ∃ o', SideXStr w' o' S ps ∧ Step (SL S) w o w' o' := by
  have hS := h
  obtain ⟨pa, px, vk, va, vw, h0, hAr, hR, hK, hk, hAl, hWl, hL⟩ := h
  have hla := hL.la
  have hle := hL.le
  have eA : als.length = 30 := by omega
  rw [eA] at hAl
  have hn : n ≤ 4096 := Nat.le_trans hAr.wf.le hAr.wf.room
  obtain ⟨l, hl⟩ : ∃ l, l = allL n free := ⟨_, rfl⟩
  obtain ⟨M, hM⟩ : ∃ M, M = l.length := ⟨_, rfl⟩
  have hM2 : M ≤ 4096 := by rw [hM, hl]; exact Nat.le_trans (allL_le n free) hn
  have a1 := fun wx hh => allStr wx o (S + 1) pa room n (S + 95) (valsStr ts) free (by unfold IL; omega) hh
  rw [← hl, ← hM] at a1
  have r1 := fun wx ox lb hlb hh => refAll wx ox (S + 5) px room n lb free hlb hh
  rw [← hl, ← hM] at r1
  have HM : Hid (M = l.length) := hM
  have sB := fun ob => allocStep (fun _ => False) w o ob
  have f0 := fun ob => h0.step (sB ob) id
  have fA := fun ob => hAr.step (sB ob) (fun _ _ => id)
  have fR := fun ob => hR.step (sB ob) (fun _ _ => id)
  have fS := fun ob => hS.step (sB ob) (fun _ _ => id)
  have hp := h0.lt
  obtain ⟨c0, c1, c2, c3, c4, hf⟩ := h0.cells5
  have hfm := hAl.form
  obtain ⟨ava, cva, rfl⟩ := hfm
  clear hl hM h0 hAr hR hK hAl hWl hL hla hle eA hN hS hk
  go_enter Try.func10, Try.ntmps10
  go_wp2_with fail
  refine (a1 _ (fA _)).mono ?_
  rintro e w1 ⟨gl, cl, o1, rfl, rl, s1⟩
  have g0 := Blk.step (f0 _) s1 (by omega)
  have gR := Rf.step (fR _) s1 (by unfold RL; omega)
  have gS := SideStr.step (fS _) s1 (by unfold SD; omega)
  have t1 : Step (SL S) w o w1 o1 := ((sB _).mono (fun _ h => h.elim)).trans (s1.mono fun k hk => SL.mk (by omega) (by omega))
  clear f0 fA fR fS sB s1 a1 c0 c1 c2 c3 c4 hf
  obtain ⟨c0, c1, c2, c3, c4, hf⟩ := g0.cells5
  have lb2 : ¬ RL (S + 5) (S + 96) := by unfold RL; omega
  have hr6 := r1 _ o1 (S + 96) lb2 gR
  clear r1 g0 gR
  go_wp2_with fail
  refine hr6.mono ?_
  rintro e w7 ⟨a7, c7, rfl, o7, r7, s7⟩
  have ml7 := rl.step s7 (by omega)
  have F7 := gS.step s7 (by unfold SD; omega)
  have t7 := t1.trans (s7.mono fun k hk => SL.mk (by omega) (by omega))
  clear hr6 rl gS t1 s7
  go_wp2_with fail
  refine (same_yes w7 o7 o7 _ _ M l _ _ HM.out.symm (by omega) ml7 r7).mono ?_
  rintro e w8 ⟨rfl, m8, rfl⟩
  clear ml7 r7
  go_wp2
  go_ret
  exact ⟨rfl, o7, ⟨room, n, ts, free, kept, _, _, _, F7.step ((Step.refl (fun _ => False) w7 o7).drewN m8) (fun _ _ => id)⟩, t7.drewN m8⟩

theorem stepStr (w : World) (o : Nat → Nat) (S ps : Nat) (kd x y : Int) (b : Bool) (v : ByteArray) (h : SideXStr w o S ps) :
    Calls Try.prog 10 #[.pointer (some ⟨ps, 0, none⟩), opStr kd x y b, Value.string v] w fun e w' => e = .returned (.bool true) ∧ ∃ o', SideXStr w' o' S ps ∧ Step (SL S) w o w' o' := by
  by_cases hk : kd < 1 ∨ 6 < kd
  · exact stepElseStr w o S ps kd x y b v hk h
  · have hc : kd = 1 ∨ kd = 2 ∨ kd = 3 ∨ kd = 4 ∨ kd = 5 ∨ kd = 6 := by omega
    rcases hc with rfl | rfl | rfl | rfl | rfl | rfl
    · exact stepPutStr w o S ps x y b v h
    · exact stepDropStr w o S ps x y b v h
    · exact stepGetStr w o S ps x y b v h
    · exact stepSetStr w o S ps x y b v h
    · exact stepLenStr w o S ps x y b v h
    · obtain ⟨room, n, ts, free, kept, als, wls, ls, h⟩ := h
      by_cases hN : ls.length < 30
      · exact stepAllNewStr w o S ps room n ts free kept als wls ls x y b v hN h
      · exact stepAllOldStr w o S ps room n ts free kept als wls ls x y b v hN h

end Go.Proofs.Ytbcpifklnbaooaa
