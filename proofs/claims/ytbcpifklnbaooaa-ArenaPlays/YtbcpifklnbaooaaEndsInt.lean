/- One side of the law ArenaPlays (int): its end. -/
import Derived.Test.YtbcpifklnbaooaaSAllInt
namespace Go.Proofs.Ytbcpifklnbaooaa
open Go.ChangeShapes Go.WideShapes Go.ChangeAt Go.RowKit
set_option linter.unusedVariables false

/-- What stays of a side while the lists that came out are written. -/
structure EBInt (w : World) (o : Nat → Nat) (wv : World) (ov : Nat → Nat) (S ps pa px : Nat) (vk : Value) (ava : Option Addr) (N cva : Nat) (vw : Value) (room n : Nat) (ts : List Int) (free : List Nat) (als : List Value) : Prop where
  blk : Blk wv ov S ps (.cells #[.pointer (some ⟨pa, 0, none⟩), .pointer (some ⟨px, 0, none⟩), vk, .slice ava N cva, vw] 38 (0, 0))
  ar : Ar 70 3 1 wv ov (S + 1) pa room n (valsInt ts) free
  rf : Rf wv ov (S + 5) px room n free
  sp : Row wv ov (S + 9) 35 1 (.slice ava N cva) N als
  st : Step (SL S) w o wv ov
theorem EBInt.step {I : Nat → Prop} {w : World} {o : Nat → Nat} {wv wx : World} {ov ox : Nat → Nat} {S ps pa px : Nat} {vk : Value} {ava : Option Addr} {N cva : Nat} {vw : Value} {room n : Nat} {ts : List Int} {free : List Nat} {als : List Value} (h : EBInt w o wv ov S ps pa px vk ava N cva vw room n ts free als) (s : Step I wv ov wx ox) (hi : ∀ k, I k → S + 20 ≤ k ∧ k < S + 100) : EBInt w o wx ox S ps pa px vk ava N cva vw room n ts free als :=
  ⟨h.blk.step s (fun x => by have := hi _ x; omega), h.ar.step s (fun k hk x => by have := hi _ x; unfold IL at hk; omega), h.rf.step s (fun k hk x => by have := hi _ x; unfold RL at hk; omega), h.sp.step s (fun x => by have := hi _ x; omega), h.st.trans (s.mono fun k hk => by have := hi _ hk; exact SL.mk (by omega) (by omega))⟩

set_option maxRecDepth 100000 in
set_option maxHeartbeats 8000000 in
theorem endsInt (w : World) (o : Nat → Nat) (S ps : Nat) (h : SideXInt w o S ps) :
    Calls Try.prog 13 #[.pointer (some ⟨ps, 0, none⟩)] w fun e w' => e = .returned (.bool true) ∧ ∃ o', Step (SL S) w o w' o' := by
  obtain ⟨room, n, ts, free, kept, als, wls, ls, h⟩ := h
  have hget := fun x => getInt w o S ps room n ts free kept als wls ls x h
  obtain ⟨pa, px, vk, va, vw, h0, hAr, hR, hK, hk, hAl, hWl, hL⟩ := h
  have hla := hL.la
  have hlw := hL.lw
  have hle := hL.le
  obtain ⟨N, hNe⟩ : ∃ N, N = ls.length := ⟨_, rfl⟩
  have eA : als.length = N := by omega
  have eW : wls.length = N := by omega
  rw [eA] at hAl
  rw [eW] at hWl
  rw [← hNe] at hle
  have hn : n ≤ 4096 := Nat.le_trans hAr.wf.le hAr.wf.room
  have hfm := hAl.form
  obtain ⟨ava, cva, rfl⟩ := hfm
  have hfm := hWl.form
  obtain ⟨avw, cvw, rfl⟩ := hfm
  have hrr := hR
  obtain ⟨vu, vf, r0, r2, r3, r4⟩ := hrr
  have hfm := r2.form
  obtain ⟨avu, cvu, rfl⟩ := hfm
  obtain ⟨d0, d1, d2, hfd⟩ := r0.cells3
  have hx0 := h0
  obtain ⟨c0, c1, c2, c3, c4, hf⟩ := hx0.cells5
  have HA : Hid (als.length = N) := eA
  have HW : Hid (wls.length = N) := eW
  have HNe : Hid (N = ls.length) := hNe
  have HL : Hid (Lists w o S als wls ls) := hL
  clear hx0 r0 r2 r3 r4 hla hlw hNe eA eW hL hK hk
  go_enter Try.func13, Try.ntmps13
  go_wp2
  go_loopw [3] (fun i wr => ∃ k : Nat, k ≤ n + 4 ∧ i = .int .i64 ((k : Int) - 1) ∧ wr = w) (fun i _ => n + 4 - (intOf i + 1).toNat)
  case atStart => exact ⟨0, by omega, by go_num, rfl⟩
  case round =>
    obtain ⟨k, hk, rfl, hww⟩ := hrel
    rw [hww]
    clear hww
    by_cases hlt : k < n + 4
    · have hlt' : (k : Int) - 1 < (n : Int) + 1 + 2 := by omega
      go_wp2_with fail
      refine (hget _).mono ?_
      rintro e w1 ⟨rfl, rfl⟩
      go_wp2
      go_roundw
      case rel => (try ((repeat apply Exists.intro); refine ⟨?_, rfl⟩)); exact ⟨k + 1, by omega, by go_num, by first | rfl | trivial⟩
      case measure => simp [intOf]; omega
    · obtain rfl : k = n + 4 := by omega
      clear hget hlt hk
      go_wp2
      go_loopw [5] (fun i wv => ∃ k : Nat, k ≤ N ∧ i = .int .i64 k ∧ Step (fun _ => False) w o wv o) (fun i _ => N - (intOf i).toNat)
      case atStart => exact ⟨0, by omega, by go_num, Step.refl _ _ _⟩
      case round =>
        obtain ⟨k, hk, rfl, sv⟩ := hrel
        have v0 := h0.step sv id
        have vAl := hAl.step sv id
        have vWl := hWl.step sv id
        have HLv : Hid (Lists _ o S als wls ls) := HL.out.step sv (fun _ _ _ => id)
        clear c0 c1 c2 c3 c4 hf d0 d1 d2 hfd
        obtain ⟨c0, c1, c2, c3, c4, hf⟩ := v0.cells5
        by_cases hlt : k < N
        · obtain ⟨ga, cva', hv, _, hca, hma, _, hcla, _⟩ := vAl.pos (by omega)
          simp only [Value.slice.injEq, true_and] at hv
          obtain ⟨rfl, rfl⟩ := hv
          obtain ⟨gw, cvw', hv, _, hcw, hmw, _, hclw, _⟩ := vWl.pos (by omega)
          simp only [Value.slice.injEq, true_and] at hv
          obtain ⟨rfl, rfl⟩ := hv
          have hkA : k < als.length := by rw [HA.out]; exact hlt
          have hkW : k < wls.length := by rw [HW.out]; exact hlt
          have cA := (hcla k (by omega)).trans (show als[k]? = some (als.getD k (.slice none 0 0)) by simp [hkA])
          have cW := (hclw k (by omega)).trans (show wls[k]? = some (wls.getD k (.slice none 0 0)) by simp [hkW])
          have hkl : k < ls.length := by rw [← HNe.out]; exact hlt
          have hs := fun m' => same_yes (World.drewN _ m') o o _ _ (ls.getD k []).length (ls.getD k []) _ _ rfl (by have := HLv.out.len k hkl; omega) (HLv.out.all k hkl) (HLv.out.was k hkl)
          obtain ⟨xa, hxa⟩ : ∃ xa, xa = als.getD k (.slice none 0 0) := ⟨_, rfl⟩
          obtain ⟨xw, hxw⟩ : ∃ xw, xw = wls.getD k (.slice none 0 0) := ⟨_, rfl⟩
          rw [← hxa] at cA hs
          rw [← hxw] at cW hs
          unfold maxLen at hma hmw
          clear hcla hclw hxa hxw hkA hkW hkl
          go_wp2
          go_quiet ((go_at_call 39; exact Calls.quiet_of (hs _)))
          clear hs
          go_wp2
          go_roundw
          case rel => (try ((repeat apply Exists.intro); refine ⟨?_, rfl⟩)); exact ⟨k + 1, by omega, by go_num, sv.drewN _⟩
          case measure => simp [intOf]; omega
        · obtain rfl : k = N := by omega
          have kRw := Rws.ofLists HLv.out
          rw [← HNe.out] at kRw
          obtain ⟨ct, kRw, ctl⟩ : ∃ ct, Rws wr o S k als ct ∧ Hid (∀ j, j < k → (ct j).length ≤ 4096) := ⟨_, kRw, fun j hj => by rw [List.length_map]; exact HLv.out.len j (by rw [← HNe.out]; exact hj)⟩
          have eb : EBInt w o wr o S ps pa px vk ava k cva (.slice avw k cvw) room n ts free als := ⟨v0, hAr.step sv (fun _ _ => id), hR.step sv (fun _ _ => id), vAl, sv.mono (fun _ h => h.elim)⟩
          clear hlt HL HLv HW HNe hWl vWl hAl vAl hR hAr h0 v0 hk sv
          go_wp2
          clear c0 c1 c2 c3 c4 hf
          go_loopw [7] (fun i wv => ∃ q : Nat, q ≤ k ∧ i = .int .i64 q ∧ ∃ ct, Rws wv o S k als ct ∧ Hid (∀ j, j < k → (ct j).length ≤ 4096) ∧ Hid (∀ j, j < q → ∀ t, t < (ct j).length → (ct j).getD t 0 = -1 - (j : Int)) ∧ EBInt w o wv o S ps pa px vk ava k cva (.slice avw k cvw) room n ts free als) (fun i _ => k - (intOf i).toNat)
          case atStart => exact ⟨0, by omega, by go_num, ct, kRw, ctl, (fun j hj => by omega : _), eb⟩
          case round =>
            clear eb kRw ctl ct
            obtain ⟨q, hq, rfl, ct3, r3, L3, M3, eb⟩ := hrel
            obtain ⟨e0, e1, e2, e3, e4, hfe⟩ := eb.blk.cells5
            by_cases hlt : q < k
            · have lS := eb.sp
              obtain ⟨ga, cva', hv, hogA, hca, hma, hgl, hcla, _⟩ := lS.pos (by omega)
              simp only [Value.slice.injEq, true_and] at hv
              obtain ⟨rfl, rfl⟩ := hv
              have hqA : q < als.length := by rw [HA.out]; exact hlt
              have hva := (r3 q hlt).form
              obtain ⟨aq, cq, hva⟩ := hva
              have HV : Hid (als.getD q (.slice none 0 0) = .slice aq (ct3 q).length cq) := hva
              unfold maxLen at hma
              obtain ⟨Q, hQ⟩ : ∃ Q, Q = (ct3 q).length := ⟨_, rfl⟩
              have hQb : Q ≤ 4096 := by rw [hQ]; exact L3.out q hlt
              have HQ : Hid (Q = (ct3 q).length) := hQ
              have HCa : Hid (als[q]? = some (.slice aq Q cq)) := by rw [hQ, ← hva]; show als[q]? = _; simp [hqA]
              clear hqA hva hQ hcla lS
              go_wp2
              go_loopw [8] (fun i wv => ∃ t : Nat, t ≤ Q ∧ i = .int .i64 t ∧ ∃ ct, Rws wv o S k als ct ∧ Hid (Q = (ct q).length) ∧ Hid (∀ j, j < k → (ct j).length ≤ 4096) ∧ Hid (∀ j, j < q → ∀ t, t < (ct j).length → (ct j).getD t 0 = -1 - (j : Int)) ∧ Hid (∀ u, u < t → (ct q).getD u 0 = -1 - (q : Int)) ∧ EBInt w o wv o S ps pa px vk (some ⟨ga, 0, none⟩) k cva (.slice avw k cvw) room n ts free als) (fun i _ => Q - (intOf i).toNat)
              case atStart => exact ⟨0, by omega, by go_num, ct3, r3, HQ, L3, M3, (fun u hu => by omega : _), eb⟩
              case round =>
                clear e0 e1 e2 e3 e4 hfe eb r3 L3 M3 HQ HV hogA hgl
                obtain ⟨t, ht, rfl, ct4, r4, HQ4, L4, M4, M4q, eb⟩ := hrel
                obtain ⟨e0, e1, e2, e3, e4, hfe⟩ := eb.blk.cells5
                have cA : wr.cell? ⟨ga, q, none⟩ = some (.slice aq Q cq) := (eb.sp.1.cellAt q (by omega)).trans HCa.out
                by_cases hlt2 : t < Q
                · have hr := r4 q hlt
                  have hg2 : als.getD q (.slice none 0 0) = .slice aq Q cq := by rw [List.getD_eq_getElem?_getD, HCa.out]; rfl
                  rw [hg2] at hr
                  obtain ⟨gq, cq', hv, hogq, hcq, hmq, hglq, hclq, hfrq⟩ := hr.pos (by rw [← HQ4.out]; omega)
                  simp only [Value.slice.injEq] at hv
                  obtain ⟨rfl, _, rfl⟩ := hv
                  have htc : t < (ct4 q).length := by rw [← HQ4.out]; exact hlt2
                  have cQ : wr.cell? ⟨gq, t, none⟩ = some (.int .i64 ((ct4 q).getD t 0)) := (hclq t (by omega)).trans (zL_get _ t htc)
                  have fQ := hfrq t
                  rw [← HQ4.out] at hcq
                  unfold maxLen at hmq
                  have R := Rws.store r4 hlt (by rw [← HQ4.out]; exact hg2) t (-1 - (q : Int))
                  have R1 := R.1
                  have eb5 := eb.step R.2 (fun x hx => by omega)
                  have hne : (gq : Nat) ≠ ga := fun e => by have := eb.sp.2 ga rfl; rw [← e] at this; omega
                  have H1 : Hid (Q = ((fun j => if j = q then (ct4 q).set t (-1 - (q : Int)) else ct4 j) q).length) := by show Q = _; simp only [if_true, List.length_set]; exact HQ4.out
                  have H2 : Hid (∀ j, j < k → ((fun j => if j = q then (ct4 q).set t (-1 - (q : Int)) else ct4 j) j).length ≤ 4096) := fun j hj => by
                    by_cases e : j = q
                    · simp only [if_pos e, List.length_set]; exact L4.out q hlt
                    · simp only [if_neg e]; exact L4.out j hj
                  have H3 : Hid (∀ j, j < q → ∀ u, u < ((fun j => if j = q then (ct4 q).set t (-1 - (q : Int)) else ct4 j) j).length → ((fun j => if j = q then (ct4 q).set t (-1 - (q : Int)) else ct4 j) j).getD u 0 = -1 - (j : Int)) := fun j hj u => by
                    have e : ¬ j = q := by omega
                    simp only [if_neg e]; exact M4.out j hj u
                  have H4 : Hid (∀ u, u < t + 1 → ((fun j => if j = q then (ct4 q).set t (-1 - (q : Int)) else ct4 j) q).getD u 0 = -1 - (q : Int)) := fun u hu => by
                    simp only [if_true]
                    rw [List.getD_eq_getElem?_getD, List.getElem?_set]
                    by_cases e : t = u
                    · subst e; rw [if_pos rfl, if_pos htc]; rfl
                    · rw [if_neg e, ← List.getD_eq_getElem?_getD]; exact M4q.out u (by omega)
                  clear R hclq hfrq hr hg2 eb r4 HQ4 L4 M4 M4q htc hogq hglq
                  go_wp2
                  go_roundw
                  case rel => (try ((repeat apply Exists.intro); refine ⟨?_, rfl⟩)); exact ⟨t + 1, by omega, by go_num, _, R1, H1, H2, H3, H4, eb5⟩
                  case measure => simp [intOf]; omega
                · obtain rfl : t = Q := by omega
                  have M5 : Hid (∀ j, j < q + 1 → ∀ u, u < (ct4 j).length → (ct4 j).getD u 0 = -1 - (j : Int)) := fun j hj u hu => by
                    by_cases e : j = q
                    · subst e; exact M4q.out u (by rw [HQ4.out]; exact hu)
                    · exact M4.out j (by omega) u hu
                  clear M4 M4q HQ4
                  go_wp2
                  go_roundw
                  case rel => (try ((repeat apply Exists.intro); refine ⟨?_, rfl⟩)); exact ⟨q + 1, by omega, by go_num, ct4, r4, L4, M5, eb⟩
                  case measure => simp [intOf]; omega
            · obtain rfl : q = k := by omega
              have H5 : Hid (als.length = q) := HA
              have L5 : Hid (∀ j, j < q → (ct3 j).length ≤ 4096 + 0) := L3
              obtain ⟨ii, hii, hzi0, hzi1, hzi2⟩ := info_parts infoInt
              clear HA L3 hq hlt
              go_wp2
              clear e0 e1 e2 e3 e4 hfe
              go_loopw [9] (fun i wv => ∃ r : Nat, r ≤ 12 ∧ i = .int .i64 r ∧ ∃ ov als' ct, Rws wv ov S q als' ct ∧ Hid (als'.length = q) ∧ Hid (∀ j, j < q → (ct j).length ≤ 4096 + r) ∧ Hid (∀ j, j < q → ∀ t, t < (ct j).length → (ct j).getD t 0 = -1 - (j : Int)) ∧ EBInt w o wv ov S ps pa px vk ava q cva (.slice avw q cvw) room n ts free als') (fun i _ => 12 - (intOf i).toNat)
              case atStart => exact ⟨0, by omega, by go_num, o, als, ct3, r3, H5, L5, M3, eb⟩
              case round =>
                clear r3 H5 L5 M3 eb
                obtain ⟨r, hr, rfl, o5, als5, ct5, r5, H5, L5, M5, eb⟩ := hrel
                by_cases hlt : r < 12
                · go_wp2
                  go_loopw [10] (fun i wv => ∃ p : Nat, p ≤ q ∧ i = .int .i64 p ∧ ∃ ov als' ct, Rws wv ov S q als' ct ∧ Hid (als'.length = q) ∧ Hid (∀ j, j < q → (ct j).length ≤ 4096 + r + (if j < p then 1 else 0)) ∧ Hid (∀ j, j < q → ∀ t, t < (ct j).length → (ct j).getD t 0 = -1 - (j : Int)) ∧ EBInt w o wv ov S ps pa px vk ava q cva (.slice avw q cvw) room n ts free als') (fun i _ => q - (intOf i).toNat)
                  case atStart => exact ⟨0, by omega, by go_num, o5, als5, ct5, r5, H5, (fun j hj => by simpa using L5.out j hj : _), M5, eb⟩
                  case round =>
                    clear r5 H5 L5 M5 eb
                    obtain ⟨p, hp, rfl, o6, als6, ct6, r6, H6, L6, M6, eb⟩ := hrel
                    obtain ⟨e0, e1, e2, e3, e4, hfe⟩ := eb.blk.cells5
                    by_cases hlt2 : p < q
                    · obtain ⟨ga, cva', hv, hogA, hca, hma, hgl, hcla, hfra⟩ := eb.sp.pos (by omega)
                      simp only [Value.slice.injEq, true_and] at hv
                      obtain ⟨rfl, rfl⟩ := hv
                      have hpA : p < als6.length := by rw [H6.out]; exact hlt2
                      have rp := r6 p hlt2
                      have hva := rp.form
                      obtain ⟨aq, cq, hva⟩ := hva
                      rw [hva] at rp
                      obtain ⟨Q, hQ⟩ : ∃ Q, Q = (ct6 p).length := ⟨_, rfl⟩
                      have hQb : Q ≤ 4110 := by have h1 := L6.out p hlt2; rw [← hQ] at h1; split at h1 <;> omega
                      have HQ : Hid (Q = (ct6 p).length) := hQ
                      have cA := (hcla p (by omega)).trans (show als6[p]? = some (.slice aq Q cq) by rw [hQ, ← hva]; simp [hpA])
                      rw [← hQ] at rp
                      have fA := hfra p
                      unfold maxLen at hma
                      have b1 : Q + 1 ≤ maxLen := by unfold maxLen; omega
                      have b2 : (Q + 1) * 8 ≤ 140737488355328 := by omega
                      have hone : ∀ u ∈ [Value.int .i64 (-1 - (p : Int))], u.oneCell' = true := by intro u hu; simp at hu; subst hu; rfl
                      have hps := eb.blk.lt
                      have hwr : IntKind.i64.wrap (-1 - (p : Int)) = -1 - (p : Int) := by rw [IntKind.wrap_i64]; omega
                      clear hcla hfra hQ hpA hva
                      go_wp2_with fail
                      go_region_law (refine step_append_lab rfl (.tmp 113) (.tmp 116) 35 rfl 3 ii (.int .i64 0) 1 8 Try.underlying35 hii hzi0 hzi1 hzi2 rfl (by decide) o6 (S + 20 + p) _ Q (zL (ct6 p)) (by simp [Act.eval]) (rp.step (((Step.refl (fun _ => False) wr o6).alloc _).drew) (by simp)) ⟨wr.heap.size, 0, none⟩ 1 1 [.int .i64 (-1 - (p : Int))] (by simp [Act.eval]) rfl (new_one_at (by simp) _ _) hone (by decide) b1 b2 ?_; intro g7 c7 w7 o7 r7 s7; have u7 := (((Step.refl (fun x => x = S + 20 + p) wr o6).alloc _).drew).trans s7; have sp7 := eb.sp.step u7 (by omega); have cA7 := (World.cell?_of_block (w := wr) (a := ⟨ga, p, none⟩) (u7.block ga hgl (by rw [hogA]; omega))).trans cA; have fA7 := (World.frozen?_of_block (w := wr) (a := ⟨ga, p, none⟩) (u7.block ga hgl (by rw [hogA]; omega))).trans fA; obtain ⟨x0, x1, x2, x3, x4, hfx⟩ := (eb.blk.step u7 (by omega)).cells5)
                      all_goals
                        have s8 := setStep (fun x => x = S + 9) w7 o7 ⟨ga, p, none⟩ (.slice (some ⟨g7, 0, none⟩) (Q + 1) c7) (sp7.2 ga rfl)
                        have sp8 := sp7.store p (.slice (some ⟨g7, 0, none⟩) (Q + 1) c7)
                        have eb8 : EBInt w o (w7.setCell ⟨ga, p, none⟩ (.slice (some ⟨g7, 0, none⟩) (Q + 1) c7)) o7 S ps pa px vk (some ⟨ga, 0, none⟩) q cva (.slice avw q cvw) room n ts free (als6.set p (.slice (some ⟨g7, 0, none⟩) (Q + 1) c7)) := ⟨(eb.blk.step u7 (by omega)).step s8 (by omega), (eb.ar.step u7 (by unfold IL; omega)).step s8 (by unfold IL; omega), (eb.rf.step u7 (by unfold RL; omega)).step s8 (by unfold RL; omega), sp8, (eb.st.trans (u7.mono fun x hx => SL.mk (by omega) (by omega))).trans (s8.mono fun x hx => SL.mk (by omega) (by omega))⟩
                        rw [zL_push] at r7
                        have e7 : Q + 1 = (ct6 p ++ [-1 - (p : Int)]).length := by rw [HQ.out]; simp
                        have r7' := r7.step s8 (show ¬ (S + 20 + p = S + 9) by omega)
                        have r8 := Rws.put (i := p) (v := .slice (some ⟨g7, 0, none⟩) (Q + 1) c7) (fun j hj hne => ((r6 j hj).step u7 (by omega)).step s8 (by omega)) H6.out hlt2 (by rw [← e7]; exact r7')
                        have H8 : Hid ((als6.set p (.slice (some ⟨g7, 0, none⟩) (Q + 1) c7)).length = q) := by show _ = _; rw [List.length_set]; exact H6.out
                        have L8 : Hid (∀ j, j < q → ((fun j => if j = p then ct6 p ++ [-1 - (p : Int)] else ct6 j) j).length ≤ 4096 + r + (if j < p + 1 then 1 else 0)) := fun j hj => by
                          by_cases e : j = p
                          · subst e
                            have h1 := L6.out j hj
                            simp only [if_true]
                            rw [← e7, if_pos (by omega), HQ.out]
                            rw [if_neg (by omega)] at h1
                            omega
                          · have h1 := L6.out j hj
                            simp only [if_neg e]
                            split at h1 <;> split <;> omega
                        have M8 : Hid (∀ j, j < q → ∀ t, t < ((fun j => if j = p then ct6 p ++ [-1 - (p : Int)] else ct6 j) j).length → ((fun j => if j = p then ct6 p ++ [-1 - (p : Int)] else ct6 j) j).getD t 0 = -1 - (j : Int)) := fun j hj t ht => by
                          by_cases e : j = p
                          · subst e
                            simp only [if_true] at ht ⊢
                            rw [getD_snoc']
                            by_cases e2 : t < (ct6 j).length
                            · rw [if_pos e2]; exact M6.out j hj t e2
                            · rw [if_neg e2, if_pos (by simp at ht; omega)]
                          · simp only [if_neg e] at ht ⊢
                            exact M6.out j hj t ht
                        clear u7 s7 s8 sp7 sp8 cA7 fA7 x0 x1 x2 x3 x4 hfx e7 r7 r7' r6 H6 L6 M6 eb rp cA fA hwr HQ
                        go_wp2
                        go_roundw
                        case rel => (try ((repeat apply Exists.intro); refine ⟨?_, rfl⟩)); exact ⟨p + 1, by omega, by go_num, o7, _, _, r8, H8, L8, M8, eb8⟩
                        case measure => simp [intOf]; omega
                    · obtain rfl : p = q := by omega
                      have L7 : Hid (∀ j, j < p → (ct6 j).length ≤ 4096 + (r + 1)) := fun j hj => by
                        have h1 := L6.out j hj
                        rw [if_pos hj] at h1
                        omega
                      go_wp2
                      go_roundw
                      case rel => (try ((repeat apply Exists.intro); refine ⟨?_, rfl⟩)); exact ⟨r + 1, by omega, by go_num, o6, als6, ct6, r6, H6, L7, M6, eb⟩
                      case measure => simp [intOf]; omega
                · obtain rfl : r = 12 := by omega
                  obtain ⟨e0, e1, e2, e3, e4, hfe⟩ := eb.blk.cells5
                  clear hlt hr
                  go_wp2
                  go_loopw [11] (fun i wv => ∃ p : Nat, p ≤ q ∧ i = .int .i64 p ∧ wv = wr) (fun i _ => q - (intOf i).toNat)
                  case atStart => exact ⟨0, by omega, by go_num, rfl⟩
                  case round =>
                    obtain ⟨p, hp, rfl, hww⟩ := hrel
                    rw [hww]
                    clear hww
                    by_cases hlt : p < q
                    · obtain ⟨ga, cva', hv, hogA, hca, hma, hgl, hcla, hfra⟩ := eb.sp.pos (by omega)
                      simp only [Value.slice.injEq, true_and] at hv
                      obtain ⟨rfl, rfl⟩ := hv
                      have hpA : p < als5.length := by rw [H5.out]; exact hlt
                      have rp := r5 p hlt
                      have hva := rp.form
                      obtain ⟨aq, cq, hva⟩ := hva
                      rw [hva] at rp
                      obtain ⟨Q, hQ⟩ : ∃ Q, Q = (ct5 p).length := ⟨_, rfl⟩
                      have hQb : Q ≤ 4110 := by have h1 := L5.out p hlt; rw [← hQ] at h1; omega
                      have HQ : Hid (Q = (ct5 p).length) := hQ
                      have cA := (hcla p (by omega)).trans (show als5[p]? = some (.slice aq Q cq) by rw [hQ, ← hva]; simp [hpA])
                      rw [← hQ] at rp
                      unfold maxLen at hma
                      clear hcla hfra hQ hpA hva
                      go_wp2
                      go_loopw [12] (fun i wv => ∃ t : Nat, t ≤ Q ∧ i = .int .i64 t ∧ Hid (wv = _)) (fun i _ => Q - (intOf i).toNat)
                      case atStart => exact ⟨0, by omega, by go_num, rfl⟩
                      case round =>
                        obtain ⟨t, ht, rfl, hww⟩ := hrel
                        rw [hww.out]
                        clear hww
                        by_cases hlt2 : t < Q
                        · obtain ⟨gq, cq', hv, hogq, hcq, hmq, hglq, hclq, hfrq⟩ := rp.pos (by omega)
                          simp only [Value.slice.injEq, true_and] at hv
                          obtain ⟨rfl, rfl⟩ := hv
                          have htc : t < (ct5 p).length := by rw [← HQ.out]; exact hlt2
                          have cQ := (hclq t (by omega)).trans ((zL_get _ t htc).trans (by rw [M5.out p hlt t htc]))
                          unfold maxLen at hmq
                          clear hclq hfrq htc
                          go_wp2
                          go_roundw
                          case rel => (try ((repeat apply Exists.intro); refine ⟨?_, rfl⟩)); exact ⟨t + 1, by omega, by go_num, by first | rfl | exact trivial⟩
                          case measure => simp [intOf]; omega
                        · obtain rfl : t = Q := by omega
                          go_wp2
                          go_roundw
                          case rel => (try ((repeat apply Exists.intro); refine ⟨?_, rfl⟩)); exact ⟨p + 1, by omega, by go_num, by first | rfl | trivial⟩
                          case measure => simp [intOf]; omega
                    · obtain rfl : p = q := by omega
                      clear hlt hp r5 H5 L5 M5
                      obtain ⟨l, hl⟩ : ∃ l, l = allL n free := ⟨_, rfl⟩
                      obtain ⟨M, hM⟩ : ∃ M, M = l.length := ⟨_, rfl⟩
                      have hM2 : M ≤ 4096 := by rw [hM, hl]; exact Nat.le_trans (allL_le n free) hn
                      have ebd := eb.step ((Step.refl (fun _ => False) _ o5).drew) (fun _ h => h.elim)
                      have a1 := allInt _ o5 (S + 1) pa room n (S + 95) (valsInt ts) free (by unfold IL; omega) ebd.ar
                      rw [← hl, ← hM] at a1
                      have r1 := fun wx ox lb hlb hh => refAll wx ox (S + 5) px room n lb free hlb hh
                      rw [← hl, ← hM] at r1
                      have lb2 : ¬ RL (S + 5) (S + 96) := by unfold RL; omega
                      have HM : Hid (l.length = M) := hM.symm
                      have hM5 : M ≤ 5000 := by omega
                      clear hl hM
                      go_wp2_with fail
                      go_region_held (fun wx => wx.cell? ⟨ps, 0, none⟩ = some (.pointer (some ⟨pa, 0, none⟩)) ∧ wx.cell? ⟨ps, 1, none⟩ = some (.pointer (some ⟨px, 0, none⟩))) (go_keep) ((first | (go_at_call 43; refine a1.mono ?_; rintro e wA ⟨gA, cA1, oA, rfl, rA, sA⟩; have ebA := ebd.step sA (fun x hx => by omega); obtain ⟨y0, y1, _, _, _, _⟩ := ebA.blk.cells5) | (go_at_call 38; refine (r1 wA oA (S + 96) lb2 ebA.rf).mono ?_; rintro e wB ⟨aB, cB, rfl, oB, rB, sB⟩; have ebB := ebA.step sB (fun x hx => by omega); have rA2 := rA.step sB (by omega); obtain ⟨z0, z1, _, _, _, _⟩ := ebB.blk.cells5) | (go_at_call 39; refine (same_yes wB oB oB _ _ M l _ _ HM.out hM5 rA2 rB).mono ?_; rintro e wC ⟨rfl, mC, rfl⟩) | (go_at_call 27; refine (lenInt _ oB (S + 1) pa room n (valsInt ts) free (ebB.ar.drewN mC)).mono ?_; rintro e wD ⟨rfl, mD, rfl⟩) | (go_at_call 36; refine (refLen _ oB (S + 5) px room n free (ebB.rf.drewN _)).mono ?_; rintro e wE ⟨rfl, rfl⟩)))
                      all_goals
                        have FSt := ebB.st
                        clear a1 r1 ebd eb
                        go_wp2
                        go_ret
                        exact ⟨ret_bool (by simp), oB, FSt.drewN _⟩

end Go.Proofs.Ytbcpifklnbaooaa
