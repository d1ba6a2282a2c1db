/- One side of the law ArenaPlays (int): its 'put'. -/
import Derived.Test.YtbcpifklnbaooaaSideInt
namespace Go.Proofs.Ytbcpifklnbaooaa
open Go.ChangeShapes Go.WideShapes Go.ChangeAt Go.RowKit
set_option linter.unusedVariables false

theorem sputFullInt (w : World) (o : Nat → Nat) (S ps room n : Nat) (ts : List Int) (free : List Nat) (kept : List Int) (als wls : List Value) (ls : List (List Nat)) (v : Int) (hfull : n - free.length = room) (h : SideInt w o S ps room n ts free kept als wls ls) :
    Calls Try.prog 40 #[.pointer (some ⟨ps, 0, none⟩), Value.int .i64 v] w fun e w' => e = .returned (.bool true) ∧ ∃ o', SideXInt w' o' S ps ∧ Step (SL S) w o w' o' := by
  have hS := h
  obtain ⟨pa, px, vk, va, vw, h0, hA, hR, hK, hk, hAl, hWl, hL⟩ := h
  obtain ⟨c0, c1, c2, c3, c4, hf⟩ := h0.cells5
  have p1 := putFullInt w o (S + 1) pa room n (valsInt ts) free v hfull hA
  have p2 := fun m => refPutFull (w.drewN m) o (S + 5) px room n free hfull (hR.drewN m)
  clear h0 hA hR hK hk hAl hWl hL hfull
  go_enter Try.func40, Try.ntmps40
  go_wp2_with fail
  refine p1.mono ?_
  rintro e w1 ⟨rfl, m1, rfl⟩
  go_wp2_with fail
  refine (p2 m1).mono ?_
  rintro e w2 ⟨rfl, m2, rfl⟩
  clear p1 p2
  go_wp2
  refine wp_loop_rounds 1 ?_
  rw [rounds_succ]
  go_wp2
  go_ret
  exact ⟨rfl, o, ⟨room, n, ts, free, kept, als, wls, ls, hS.step ((Step.refl (fun _ => False) w o).drewN _) (fun _ _ => id)⟩, (Step.refl _ w o).drewN _⟩

theorem sputPopInt (w : World) (o : Nat → Nat) (S ps room n : Nat) (ts : List Int) (fs : List Nat) (k : Nat) (kept : List Int) (als wls : List Value) (ls : List (List Nat)) (v : Int) (h : SideInt w o S ps room n ts (fs ++ [k + 1]) kept als wls ls) :
    Calls Try.prog 40 #[.pointer (some ⟨ps, 0, none⟩), Value.int .i64 v] w fun e w' => e = .returned (.bool true) ∧ ∃ o', SideXInt w' o' S ps ∧ Step (SL S) w o w' o' := by
  obtain ⟨pa, px, vk, va, vw, h0, hA, hR, hK, hk, hAl, hWl, hL⟩ := h
  have hx0 := h0
  obtain ⟨c0, c1, c2, c3, c4, hf⟩ := hx0.cells5
  clear hx0
  have hla := hA.wf.last
  have hkn : k < n := by omega
  have hn : n ≤ 4096 := Nat.le_trans hA.wf.le hA.wf.room
  have htl := ts_lenInt hA
  have hkl := hk.pos (by omega)
  have hk2 := hk.pop hA.wf v (by omega)
  obtain ⟨gk, ck, rfl, hogk, hck, hmk, hltk, hclk, hfrk⟩ := hK.pos (by omega)
  unfold maxLen at hmk
  rw [hkl] at hck c2
  have hlk : k + 1 < (valsInt kept).length := by rw [valsInt_len]; omega
  have p1 := putPopInt w o (S + 1) pa room n (valsInt ts) fs k v hA
  go_enter Try.func40, Try.ntmps40
  go_wp2_with fail
  refine p1.mono ?_
  rintro e w1 ⟨rfl, o1, hA1, s1⟩
  have k0 := h0.step s1 (by unfold IL; omega)
  have kR := hR.step s1 (by unfold IL RL; omega)
  have kK := hK.step s1 (by unfold IL; omega)
  have kA := hAl.step s1 (by unfold IL; omega)
  have kW := hWl.step s1 (by unfold IL; omega)
  have kL := hL.step s1 (by unfold IL; omega)
  have p2 := refPutPop w1 o1 (S + 5) px room n fs k kR
  obtain ⟨d0, d1, d2, d3, d4, hfd⟩ := k0.cells5
  clear h0 hR hK hAl hWl hL c0 c1 c2 c3 c4 hf p1 hk hA d0 d2 d3 d4 hfd hclk
  go_wp2_with fail
  refine p2.mono ?_
  rintro e w2 ⟨rfl, hR2, s2⟩
  have m0 := k0.step s2 (by unfold RL; omega)
  have mA := hA1.step s2 (by unfold IL RL; omega)
  have mK := kK.step s2 (by unfold RL; omega)
  have mAl := kA.step s2 (by unfold RL; omega)
  have mW := kW.step s2 (by unfold RL; omega)
  have mL := kL.step s2 (by unfold RL; omega)
  obtain ⟨e0, e1, e2, e3, e4, hfe⟩ := m0.cells5
  rw [hkl] at e2
  have hog2 : o1 gk = S + 8 := mK.2 gk rfl
  have eK : w2.cell? ⟨gk, k + 1, none⟩ = some ((valsInt kept)[k + 1]) := (mK.1.cellAt (k + 1) (by omega)).trans (List.getElem?_eq_getElem hlk)
  have fK : w2.frozen? ⟨gk, k + 1, none⟩ = false := mK.1.frozenAt _
  have s3 := setStep (fun x => x = S + 8) w2 o1 ⟨gk, k + 1, none⟩ (Value.int .i64 v) hog2
  have r3 := mK.store (k + 1) (Value.int .i64 v)
  rw [valsInt_set] at mA r3
  have el : kept.length = (kept.set (k + 1) v).length := by simp
  have F : SideXInt (w2.setCell ⟨gk, k + 1, none⟩ (Value.int .i64 v)) o1 S ps := ⟨room, n, ts.set k v, fs, kept.set (k + 1) v, als, wls, ls, pa, px, _, va, vw, m0.step s3 (by omega), mA.step s3 (by unfold IL; omega), hR2.step s3 (by unfold RL; omega), by rw [← el]; exact r3, hk2, mAl.step s3 (by omega), mW.step s3 (by omega), mL.step s3 (by omega)⟩
  have FSt : Step (SL S) w o (w2.setCell ⟨gk, k + 1, none⟩ (Value.int .i64 v)) o1 := ((s1.mono fun x hx => SL.ofIL hx).trans (s2.mono fun x hx => SL.ofRL hx)).trans (s3.mono fun x hx => SL.ofEq (j := 8) (by omega) hx)
  have hnk : ¬ ((n : Int) + 1 ≤ (k : Int) + 1) := by omega
  clear p2 s1 s2 s3 m0 mA mK mAl mW mL r3 el k0 kR kK kA kW kL hA1 hR2 hk2
  go_wp2
  refine wp_loop_rounds 1 ?_
  rw [rounds_succ]
  go_wp2
  go_ret
  exact ⟨rfl, o1, F, FSt⟩

set_option maxRecDepth 100000 in
theorem sputPushInt (w : World) (o : Nat → Nat) (S ps room n : Nat) (ts : List Int) (kept : List Int) (als wls : List Value) (ls : List (List Nat)) (v : Int) (hroom : n < room) (h : SideInt w o S ps room n ts [] kept als wls ls) :
    Calls Try.prog 40 #[.pointer (some ⟨ps, 0, none⟩), Value.int .i64 v] w fun e w' => e = .returned (.bool true) ∧ ∃ o', SideXInt w' o' S ps ∧ Step (SL S) w o w' o' := by
  obtain ⟨pa, px, vk, va, vw, h0, hA, hR, hK, hk, hAl, hWl, hL⟩ := h
  have hx0 := h0
  obtain ⟨c0, c1, c2, c3, c4, hf⟩ := hx0.cells5
  clear hx0
  have hrm := hA.wf.room
  have hn : n < 4096 := by omega
  have htl := ts_lenInt hA
  have p1 := putPushInt w o (S + 1) pa room n (valsInt ts) v hroom hA
  obtain ⟨i0, hi, hz0, hz1, hz2⟩ := info_parts infoEInt
  go_enter Try.func40, Try.ntmps40
  go_wp2_with fail
  refine p1.mono ?_
  rintro e w1 ⟨rfl, o1, hA1, s1⟩
  have k0 := h0.step s1 (by unfold IL; omega)
  have kR := hR.step s1 (by unfold IL RL; omega)
  have kK := hK.step s1 (by unfold IL; omega)
  have kA := hAl.step s1 (by unfold IL; omega)
  have kW := hWl.step s1 (by unfold IL; omega)
  have kL := hL.step s1 (by unfold IL; omega)
  have p2 := refPutPush w1 o1 (S + 5) px room n hroom kR
  obtain ⟨d0, d1, d2, d3, d4, hfd⟩ := k0.cells5
  clear h0 hR hK hAl hWl hL c0 c1 c2 c3 c4 hf p1 hA d0 d2 d3 d4 hfd
  go_wp2_with fail
  refine p2.mono ?_
  rintro e w2 ⟨rfl, o2, hR2, s2⟩
  have m0 := k0.step s2 (by unfold RL; omega)
  have mA := hA1.step s2 (by unfold IL RL; omega)
  have mK := kK.step s2 (by unfold RL; omega)
  have mAl := kA.step s2 (by unfold RL; omega)
  have mW := kW.step s2 (by unfold RL; omega)
  have mL := kL.step s2 (by unfold RL; omega)
  have S2 : Step (SL S) w o w2 o2 := (s1.mono fun x hx => SL.ofIL hx).trans (s2.mono fun x hx => SL.ofRL hx)
  rw [valsInt_push] at mA
  have HT : Hid (ts.length = n) := htl
  clear p2 s1 s2 k0 kR kK kA kW kL hA1 htl
  go_wp2
  go_loopg [44] (n + 2 - kept.length) (fun g _ wr => ∃ kept' vk' o', kept'.length + g = n + 2 ∧ Hid (∀ i, 0 < n → i < n + 1 → kept'[i]? = kept[i]?) ∧ Blk wr o' S ps (.cells #[.pointer (some ⟨pa, 0, none⟩), .pointer (some ⟨px, 0, none⟩), vk', va, vw] 38 (0, 0)) ∧ Row wr o' (S + 8) 3 1 vk' kept'.length (valsInt kept') ∧ Step (fun x => x = S ∨ x = S + 8) w2 o2 wr o')
  case atStart => exact ⟨kept, vk, o2, by have := hk.le; omega, fun i _ _ => rfl, m0, mK, Step.refl _ _ _⟩
  case round =>
    obtain ⟨kept', vk', o3, hg, hpre, b3, r3, s3⟩ := hrel
    obtain ⟨c0, c1, c2, c3, c4, hf⟩ := b3.cells5
    obtain ⟨q, hq⟩ : ∃ q, q = kept'.length := ⟨_, rfl⟩
    rw [← hq] at r3 hg
    have hfm := r3.form
    obtain ⟨ak, ck, rfl⟩ := hfm
    have HQ : Hid (q = kept'.length) := hq
    clear hq
    by_cases hlt : q ≤ n + 1
    · have b1 : q + 1 ≤ maxLen := by unfold maxLen; omega
      have hlt' : (q : Int) ≤ (n : Int) + 1 := by omega
      go_wp2_with (first | (at_builtin; refine wpList_append_lab rfl (.tmp 49) (.tmp 51) 35 rfl 3 i0 (Value.int .i64 0) 1 8 Try.underlying35 hi hz0 hz1 hz2 rfl (by decide) o3 (S + 8) _ q (valsInt kept') rfl (r3.step (allocStep (fun _ => False) _ o3 _) (by simp)) ⟨wr.heap.size, 0, none⟩ 1 1 [Value.int .i64 v] rfl rfl (new_one_at (by simp) _ _) (by intro u hu; simp at hu; subst hu; rfl) (by decide) b1 (by omega) ?_) | go_in)
      intro g4 c4' w4 o4 r4 s4
      have t4 := (allocStep (fun x => x = S + 8) wr o3 _).trans s4
      have b4 := b3.step t4 (by omega)
      obtain ⟨f0, f1, f2, f3, f4, hff⟩ := b4.cells5
      have s5 := setStep (fun x => x = S) w4 o4 ⟨ps, 2, none⟩ (.slice (some ⟨g4, 0, none⟩) (q + 1) c4') b4.2
      have b5 := b4.set 2 (.slice (some ⟨g4, 0, none⟩) (q + 1) c4')
      have r5 := r4.step s5 (by omega)
      rw [valsInt_push] at r5
      have e5 : q + 1 = (kept' ++ [v]).length := by rw [HQ.out]; simp
      have t5 : Step (fun x => x = S ∨ x = S + 8) w2 o2 (w4.setCell ⟨ps, 2, none⟩ (.slice (some ⟨g4, 0, none⟩) (q + 1) c4')) o4 := (s3.trans (t4.mono fun x h => Or.inr h)).trans (s5.mono fun x h => Or.inl h)
      have hpre5 : Hid (∀ i, 0 < n → i < n + 1 → (kept' ++ [v])[i]? = kept[i]?) := fun i h0 hi' => by
        have hkl := hk.pos h0
        by_cases hiq : i < q
        · rw [List.getElem?_append_left (by rw [← HQ.out]; exact hiq)]
          exact hpre i h0 hi'
        · have hpi := hpre i h0 hi'
          have : kept'[i]? = none := List.getElem?_eq_none (by rw [← HQ.out]; omega)
          rw [this] at hpi
          have := (List.getElem?_eq_none_iff.1 hpi.symm)
          omega
      have HE5 : Hid (q + 1 = (kept' ++ [v]).length) := e5
      clear e5 r3 r4 s4 t4 s5 b4 b3 s3 hpre c0 c1 c2 c3 c4 hf
      go_wp2
      go_roundg (gk - 1)
      case measure => omega
      case rel => exact ⟨kept' ++ [v], _, o4, by rw [← HE5.out]; omega, hpre5, b5, by rw [← HE5.out]; exact r5, t5⟩
    · obtain rfl : q = n + 2 := by omega
      have hnq : ¬ ((n + 2 : Nat) : Int) ≤ (n : Int) + 1 := by omega
      have hnq' : ¬ ((n : Int) + 2 ≤ (n : Int) + 1) := by omega
      obtain ⟨gk', ck', hv, hog, hcap, hmx, hgl, hcl, hfr⟩ := r3.pos (by omega)
      simp only [Value.slice.injEq, true_and] at hv
      obtain ⟨rfl, rfl⟩ := hv
      have hll : n + 1 < (valsInt kept').length := by rw [valsInt_len, ← HQ.out]; omega
      have eK : wr.cell? ⟨gk', n + 1, none⟩ = some ((valsInt kept')[n + 1]) := (hcl (n + 1) (by omega)).trans (List.getElem?_eq_getElem hll)
      have fK := hfr (n + 1)
      unfold maxLen at hmx
      have s4 := setStep (fun x => x = S + 8) wr o3 ⟨gk', n + 1, none⟩ (Value.int .i64 v) hog
      have r4 := r3.store (n + 1) (Value.int .i64 v)
      rw [valsInt_set] at r4
      have s5 : Step (fun x => x = S ∨ x = S + 8) w2 o2 (wr.setCell ⟨gk', n + 1, none⟩ (Value.int .i64 v)) o3 := s3.trans (s4.mono fun x h => Or.inr h)
      have hk5 : Kept (n + 1) (ts ++ [v]) [] (kept'.set (n + 1) v) := hk.push v HT.out (by rw [List.length_set]; exact HQ.out.symm) (fun i h0 hi' => by rw [List.getElem?_set, if_neg (by omega)]; exact hpre i h0 hi') (by rw [List.getElem?_set, if_pos rfl, if_pos (by rw [← HQ.out]; omega)])
      have el : n + 2 = (kept'.set (n + 1) v).length := by rw [List.length_set]; exact HQ.out
      have F : SideXInt (wr.setCell ⟨gk', n + 1, none⟩ (Value.int .i64 v)) o3 S ps := ⟨room, n + 1, ts ++ [v], [], kept'.set (n + 1) v, als, wls, ls, pa, px, _, va, vw, b3.step s4 (by omega), mA.step s5 (by unfold IL; omega), hR2.step s5 (by unfold RL; omega), by rw [← el]; exact r4, hk5, mAl.step s5 (by omega), mW.step s5 (by omega), mL.step s5 (by omega)⟩
      have FSt : Step (SL S) w o (wr.setCell ⟨gk', n + 1, none⟩ (Value.int .i64 v)) o3 := S2.trans (s5.mono fun x h => SL.mk (by omega) (by omega))
      clear r3 r4 s3 s4 s5 b3 hk5 el mA hR2 mAl mW mL hcl hfr m0 mK
      go_wp2
      go_ret
      exact ⟨rfl, o3, F, FSt⟩

theorem putInt (w : World) (o : Nat → Nat) (S ps : Nat) (v : Int) (h : SideXInt w o S ps) :
    Calls Try.prog 40 #[.pointer (some ⟨ps, 0, none⟩), Value.int .i64 v] w fun e w' => e = .returned (.bool true) ∧ ∃ o', SideXInt w' o' S ps ∧ Step (SL S) w o w' o' := by
  obtain ⟨room, n, ts, free, kept, als, wls, ls, h⟩ := h
  have hwf : WF room n free := by obtain ⟨pa, px, vk, va, vw, h0, hA, _⟩ := h; exact hA.wf
  by_cases hfull : n - free.length = room
  · exact sputFullInt w o S ps room n ts free kept als wls ls v hfull h
  · rcases List.eq_nil_or_concat free with rfl | ⟨fs, q, rfl⟩
    · have hlt : n < room := by have := hwf.le; simp at hfull; omega
      exact sputPushInt w o S ps room n ts kept als wls ls v hlt h
    · rw [List.concat_eq_append] at h hwf
      obtain ⟨k, rfl⟩ : ∃ k, q = k + 1 := ⟨q - 1, by have := hwf.last; omega⟩
      exact sputPopInt w o S ps room n ts fs k kept als wls ls v h

end Go.Proofs.Ytbcpifklnbaooaa
