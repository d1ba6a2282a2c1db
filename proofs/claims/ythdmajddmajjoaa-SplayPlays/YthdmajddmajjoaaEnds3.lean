/- One side of the law SplayPlays: its end. -/
import Derived.Test.YthdmajddmajjoaaAsksX
import Derived.Deep.RegionLaw
namespace Go.Proofs.Ythdmajddmajjoaa
open Go.ChangeShapes Go.WideShapes Go.ChangeAt Go.RowKit
set_option linter.unusedVariables false

/-- What stays of a side while the lists that came out are written. -/
structure EB3 (w : World) (o : Nat → Nat) (wv : World) (ov : Nat → Nat) (D ps p0 q0 : Nat) (ava : Option Addr) (N cva : Nat) (vw : Value) (als : List Value) : Prop where
  blk : Blk wv ov D ps (.cells #[.pointer (some ⟨p0, 0, none⟩), .pointer (some ⟨q0, 0, none⟩), .slice ava N cva, vw] 34 (0, 0))
  sp : Row wv ov (D + 1) 60 1 (.slice ava N cva) N als
  st : Step (SAL D) w o wv ov
theorem EB3.step {I : Nat → Prop} {w : World} {o : Nat → Nat} {wv wx : World} {ov ox : Nat → Nat} {D ps p0 q0 : Nat} {ava : Option Addr} {N cva : Nat} {vw : Value} {als : List Value} (h : EB3 w o wv ov D ps p0 q0 ava N cva vw als) (s : Step I wv ov wx ox) (hi : ∀ k, I k → D + 20 ≤ k ∧ k < D + 100) : EB3 w o wx ox D ps p0 q0 ava N cva vw als :=
  ⟨h.blk.step s (fun x => by have := hi _ x; omega), h.sp.step s (fun x => by have := hi _ x; omega), h.st.trans (s.mono fun k hk => by have := hi _ hk; exact SAL.mk (by omega) (by omega))⟩

set_option maxRecDepth 100000 in
set_option maxHeartbeats 8000000 in
theorem ends3 (w : World) (o : Nat → Nat) (D ps p0 q0 room M0 : Nat) (s : Sta) (hM : M0 + 20000 < 5500000000000) (h : SA w o D ps p0 q0 room M0 s) :
    Calls Try.prog 9 #[.pointer (some ⟨ps, 0, none⟩)] w fun e w' => e = .returned (.bool true) ∧ ∃ o', Step (SAL D) w o w' o' := by
  obtain ⟨va, vw, als, wls, ls, hS, hAl, hWl, hL⟩ := h
  have hla := hL.la
  have hlw := hL.lw
  have hle := hL.le
  obtain ⟨N, hNe⟩ : ∃ N, N = ls.length := ⟨_, rfl⟩
  have eA : als.length = N := by omega
  have eW : wls.length = N := by omega
  rw [eA] at hAl
  rw [eW] at hWl
  rw [← hNe] at hle
  have hfm := hAl.form
  obtain ⟨ava, cva, rfl⟩ := hfm
  have hfm := hWl.form
  obtain ⟨avw, cvw, rfl⟩ := hfm
  have hn : s.n ≤ 1024 := hS.x.small
  obtain ⟨n, hn'⟩ : ∃ n, n = s.n := ⟨_, rfl⟩
  rw [← hn'] at hn
  have Hn : Hid (n = s.n) := hn'
  have HA : Hid (als.length = N) := eA
  have HW : Hid (wls.length = N) := eW
  have HNe : Hid (N = ls.length) := hNe
  have HE : Hid (∀ w3 o3, Step (SEL D) w o w3 o3 → Row w3 o3 (D + 1) 60 1 (.slice ava N cva) N als ∧ Row w3 o3 (D + 2) 60 1 (.slice avw N cvw) N wls ∧ Lists w3 o3 D als wls ls ∧ Step (SAL D) w o w3 o3) := fun w3 o3 st => ⟨hAl.step st (SEL.not (by omega)), hWl.step st (SEL.not (by omega)), hL.step st (fun k h1 h2 => SEL.not (by omega)), st.mono fun k hk => SEL.sal hk⟩
  clear hla hlw hNe eA eW hL hAl hWl hn'
  go_enter Try.func9, Try.ntmps9
  go_wp2
  go_loopw [3] (fun i wr => ∃ k : Nat, k ≤ n + 2 ∧ i = .int .i64 (k : Int) ∧ ∃ M' o', M' ≤ M0 + 10 * k ∧ Sd wr o' D ps p0 q0 room M' s (.slice ava N cva) (.slice avw N cvw) ∧ Step (SEL D) w o wr o') (fun i _ => n + 2 - (intOf i).toNat)
  case atStart => exact ⟨0, by omega, by go_num, M0, o, by omega, hS, Step.refl _ _ _⟩
  case round =>
    clear hS
    obtain ⟨k, hk, rfl, M1, o1, hM1, S1, t1⟩ := hrel
    obtain ⟨c0, c1, c2, c3, hf⟩ := S1.blk.cells4
    obtain ⟨ai, ci, hx⟩ := S1.x.items
    simp only [pv] at c0 c1
    rw [← Hn.out] at hx
    by_cases hlt : k < n + 2
    · have hlt' : (k : Int) < (n : Int) + 1 + 1 := by omega
      go_wp2
      clear c0 c1 c2 c3 hf hx
      go_loopw [4] (fun i wr => ∃ c : Nat, c ≤ 10 ∧ i = .int .i64 ((c : Int) + 3) ∧ ∃ M' o', M' ≤ M0 + 10 * k + c ∧ Sd wr o' D ps p0 q0 room M' s (.slice ava N cva) (.slice avw N cvw) ∧ Step (SEL D) w o wr o') (fun i _ => 10 - (intOf i - 3).toNat)
      case atStart => exact ⟨0, by omega, by go_num, M1, o1, by omega, S1, t1⟩
      case round =>
        clear S1 t1 hM1 M1 o1
        obtain ⟨c, hc, rfl, M1, o1, hM1, S1, t1⟩ := hrel
        by_cases hlt2 : c < 10
        · obtain ⟨z, hz⟩ : ∃ z : Int, z = (c : Int) + 3 := ⟨_, rfl⟩
          rw [← hz]
          have hz12 : z ≤ 12 := by omega
          by_cases h3 : z = 3
          · rw [h3]
            obtain ⟨y, r, A, X⟩ := getBoth (M := M1) S1.f (by omega) (k : Int)
            have hcall := ask3 S1 ⟨3, k, 0, 0, false, 0, false⟩ y r rfl A X
            simp only [opxV, pv] at hcall
            clear A X
            go_wp2_with fail
            refine hcall.mono ?_
            rintro e w2 ⟨rfl, o2, S2, t2⟩
            have t3 := t1.trans t2
            clear hcall S1 t1 t2
            go_wp2
            go_roundw
            case rel => (try ((repeat apply Exists.intro); refine ⟨?_, rfl⟩)); exact ⟨c + 1, by omega, by go_num, M1 + 1, o2, by omega, S2, t3⟩
            case measure => simp [intOf] <;> omega
          by_cases h8 : z = 8
          · rw [h8]
            obtain ⟨y, r, A, X⟩ := rankBoth (M := M1) S1.f (by omega) (k : Int)
            have hcall := ask8 S1 ⟨8, k, 0, 0, false, 0, false⟩ y r rfl A X
            simp only [opxV, pv] at hcall
            clear A X
            go_wp2_with fail
            refine hcall.mono ?_
            rintro e w2 ⟨rfl, o2, S2, t2⟩
            have t3 := t1.trans (t2.mono (J := SEL D) fun _ hh => .inl hh)
            clear hcall S1 t1 t2
            go_wp2
            go_roundw
            case rel => (try ((repeat apply Exists.intro); refine ⟨?_, rfl⟩)); exact ⟨c + 1, by omega, by go_num, M1 + 1, o2, by omega, S2, t3⟩
            case measure => simp [intOf] <;> omega
          by_cases h10 : z = 10
          · rw [h10]
            obtain ⟨y, r, A, X⟩ := sumBoth (M := M1) S1.f (by omega) (k : Int)
            have hcall := ask10 S1 ⟨10, k, 0, 0, false, 0, false⟩ y r rfl A X
            simp only [opxV, pv] at hcall
            clear A X
            go_wp2_with fail
            refine hcall.mono ?_
            rintro e w2 ⟨rfl, o2, S2, t2⟩
            have t3 := t1.trans t2
            clear hcall S1 t1 t2
            go_wp2
            go_roundw
            case rel => (try ((repeat apply Exists.intro); refine ⟨?_, rfl⟩)); exact ⟨c + 1, by omega, by go_num, M1 + 1, o2, by omega, S2, t3⟩
            case measure => simp [intOf] <;> omega
          have e3 : (z == 3) = false := by simpa using h3
          have e8 : (z == 8) = false := by simpa using h8
          have e10 : (z == 10) = false := by simpa using h10
          go_wp2
          go_roundw
          case rel => (try ((repeat apply Exists.intro); refine ⟨?_, rfl⟩)); exact ⟨c + 1, by omega, by go_num, M1, o1, by omega, S1, t1⟩
          case measure => simp [intOf]; omega
        · obtain rfl : c = 10 := by omega
          go_wp2
          go_roundw
          case rel => (try ((repeat apply Exists.intro); refine ⟨?_, rfl⟩)); exact ⟨k + 1, by omega, by go_num, M1, o1, by omega, S1, t1⟩
          case measure => simp [intOf]; omega
    · obtain rfl : k = n + 2 := by omega
      have h0 := S1.blk
      obtain ⟨hAl, hWl, hL, t2⟩ := HE.out _ _ t1
      have HL : Hid (Lists _ o1 D als wls ls) := hL
      clear hlt hk HE hL t1 S1 hM1
      obtain ⟨w1, hw1⟩ : ∃ w1, w1 = wr := ⟨_, rfl⟩
      subst hw1
      simp only [pv] at h0
      go_wp2
      clear hx
      go_loopw [7] (fun i wv => ∃ k : Nat, k ≤ N ∧ i = .int .i64 k ∧ Step (fun _ => False) w1 o1 wv o1) (fun i _ => N - (intOf i).toNat)
      case atStart => exact ⟨0, by omega, by go_num, Step.refl _ _ _⟩
      case round =>
        obtain ⟨k, hk, rfl, sv⟩ := hrel
        have v0 := h0.step sv id
        have vAl := hAl.step sv id
        have vWl := hWl.step sv id
        have HLv : Hid (Lists _ o1 D als wls ls) := HL.out.step sv (fun _ _ _ => id)
        clear c0 c1 c2 c3 hf
        obtain ⟨c0, c1, c2, c3, hf⟩ := v0.cells4
        by_cases hlt : k < N
        · obtain ⟨ga, cva', hv, _, hca, hma, _, hcla, _⟩ := vAl.pos (by omega)
          simp only [Value.slice.injEq, true_and] at hv
          obtain ⟨rfl, rfl⟩ := hv
          obtain ⟨gw, cvw', hv, _, hcw, hmw, _, hclw, _⟩ := vWl.pos (by omega)
          simp only [Value.slice.injEq, true_and] at hv
          obtain ⟨rfl, rfl⟩ := hv
          have hkA : k < als.length := by rw [HA.out]; exact hlt
          have hkW : k < wls.length := by rw [HW.out]; exact hlt
          have cA := (hcla k (by omega)).trans (show als[k]? = some (als.getD k (.slice none 0 0)) by simp [hkA])
          have cW := (hclw k (by omega)).trans (show wls[k]? = some (wls.getD k (.slice none 0 0)) by simp [hkW])
          have hkl : k < ls.length := by rw [← HNe.out]; exact hlt
          have hs := fun m' => same_yes (World.drewN _ m') o1 o1 _ _ (ls.getD k []).length (ls.getD k []) _ _ rfl (by have := HLv.out.len k hkl; omega) (HLv.out.all k hkl) (HLv.out.was k hkl)
          obtain ⟨xa, hxa⟩ : ∃ xa, xa = als.getD k (.slice none 0 0) := ⟨_, rfl⟩
          obtain ⟨xw, hxw⟩ : ∃ xw, xw = wls.getD k (.slice none 0 0) := ⟨_, rfl⟩
          rw [← hxa] at cA hs
          rw [← hxw] at cW hs
          unfold maxLen at hma hmw
          clear hcla hclw hxa hxw hkA hkW hkl
          go_wp2
          go_quiet ((go_at_call 36; exact Calls.quiet_of (hs _)))
          clear hs
          go_wp2
          go_roundw
          case rel => (try ((repeat apply Exists.intro); refine ⟨?_, rfl⟩)); exact ⟨k + 1, by omega, by go_num, sv.drewN _⟩
          case measure => simp [intOf]; omega
        · obtain rfl : k = N := by omega
          have kRw := Rws.ofLists HLv.out
          rw [← HNe.out] at kRw
          obtain ⟨ct, kRw, ctl⟩ : ∃ ct, Rws wr o1 D k als ct ∧ Hid (∀ j, j < k → (ct j).length ≤ 4096) := ⟨_, kRw, fun j hj => by rw [List.length_map]; exact HLv.out.len j (by rw [← HNe.out]; exact hj)⟩
          have eb : EB3 w o wr o1 D ps p0 q0 ava k cva (.slice avw k cvw) als := ⟨v0, vAl, t2.trans (sv.mono (fun _ h => h.elim))⟩
          clear hlt HL HLv HW HNe hWl vWl hAl vAl h0 v0 hk sv t2
          go_wp2
          clear c0 c1 c2 c3 hf
          go_loopw [9] (fun i wv => ∃ q : Nat, q ≤ k ∧ i = .int .i64 q ∧ ∃ ct, Rws wv o1 D k als ct ∧ Hid (∀ j, j < k → (ct j).length ≤ 4096) ∧ Hid (∀ j, j < q → ∀ t, t < (ct j).length → (ct j).getD t 0 = -1 - (j : Int)) ∧ EB3 w o wv o1 D ps p0 q0 ava k cva (.slice avw k cvw) als) (fun i _ => k - (intOf i).toNat)
          case atStart => exact ⟨0, by omega, by go_num, ct, kRw, ctl, (fun j hj => by omega : _), eb⟩
          case round =>
            clear eb kRw ctl ct
            obtain ⟨q, hq, rfl, ct3, r3, L3, M3, eb⟩ := hrel
            obtain ⟨e0, e1, e2, e3, hfe⟩ := eb.blk.cells4
            by_cases hlt : q < k
            · have lS := eb.sp
              obtain ⟨ga, cva', hv, hogA, hca, hma, hgl, hcla, _⟩ := lS.pos (by omega)
              simp only [Value.slice.injEq, true_and] at hv
              obtain ⟨rfl, rfl⟩ := hv
              have hqA : q < als.length := by rw [HA.out]; exact hlt
              have hva := (r3 q hlt).form
              obtain ⟨aq, cq, hva⟩ := hva
              have HV : Hid (als.getD q (.slice none 0 0) = .slice aq (ct3 q).length cq) := hva
              unfold maxLen at hma
              obtain ⟨Q, hQ⟩ : ∃ Q, Q = (ct3 q).length := ⟨_, rfl⟩
              have hQb : Q ≤ 4096 := by rw [hQ]; exact L3.out q hlt
              have HQ : Hid (Q = (ct3 q).length) := hQ
              have HCa : Hid (als[q]? = some (.slice aq Q cq)) := by rw [hQ, ← hva]; show als[q]? = _; simp [hqA]
              clear hqA hva hQ hcla lS
              go_wp2
              go_loopw [10] (fun i wv => ∃ t : Nat, t ≤ Q ∧ i = .int .i64 t ∧ ∃ ct, Rws wv o1 D k als ct ∧ Hid (Q = (ct q).length) ∧ Hid (∀ j, j < k → (ct j).length ≤ 4096) ∧ Hid (∀ j, j < q → ∀ t, t < (ct j).length → (ct j).getD t 0 = -1 - (j : Int)) ∧ Hid (∀ u, u < t → (ct q).getD u 0 = -1 - (q : Int)) ∧ EB3 w o wv o1 D ps p0 q0 (some ⟨ga, 0, none⟩) k cva (.slice avw k cvw) als) (fun i _ => Q - (intOf i).toNat)
              case atStart => exact ⟨0, by omega, by go_num, ct3, r3, HQ, L3, M3, (fun u hu => by omega : _), eb⟩
              case round =>
                clear e0 e1 e2 e3 hfe eb r3 L3 M3 HQ HV hogA hgl
                obtain ⟨t, ht, rfl, ct4, r4, HQ4, L4, M4, M4q, eb⟩ := hrel
                obtain ⟨e0, e1, e2, e3, hfe⟩ := eb.blk.cells4
                have cA : wr.cell? ⟨ga, q, none⟩ = some (.slice aq Q cq) := (eb.sp.1.cellAt q (by omega)).trans HCa.out
                by_cases hlt2 : t < Q
                · have hr := r4 q hlt
                  have hg2 : als.getD q (.slice none 0 0) = .slice aq Q cq := by rw [List.getD_eq_getElem?_getD, HCa.out]; rfl
                  rw [hg2] at hr
                  obtain ⟨gq, cq', hv, hogq, hcq, hmq, hglq, hclq, hfrq⟩ := hr.pos (by rw [← HQ4.out]; omega)
                  simp only [Value.slice.injEq] at hv
                  obtain ⟨rfl, _, rfl⟩ := hv
                  have htc : t < (ct4 q).length := by rw [← HQ4.out]; exact hlt2
                  have cQ : wr.cell? ⟨gq, t, none⟩ = some (.int .i64 ((ct4 q).getD t 0)) := (hclq t (by omega)).trans (zL_get _ t htc)
                  have fQ := hfrq t
                  rw [← HQ4.out] at hcq
                  unfold maxLen at hmq
                  have R := Rws.store r4 hlt (by rw [← HQ4.out]; exact hg2) t (-1 - (q : Int))
                  have R1 := R.1
                  have eb5 := eb.step R.2 (fun x hx => by omega)
                  have hne : (gq : Nat) ≠ ga := fun e => by have := eb.sp.2 ga rfl; rw [← e] at this; omega
                  have H1 : Hid (Q = ((fun j => if j = q then (ct4 q).set t (-1 - (q : Int)) else ct4 j) q).length) := by show Q = _; simp only [if_true, List.length_set]; exact HQ4.out
                  have H2 : Hid (∀ j, j < k → ((fun j => if j = q then (ct4 q).set t (-1 - (q : Int)) else ct4 j) j).length ≤ 4096) := fun j hj => by
                    by_cases e : j = q
                    · simp only [if_pos e, List.length_set]; exact L4.out q hlt
                    · simp only [if_neg e]; exact L4.out j hj
                  have H3 : Hid (∀ j, j < q → ∀ u, u < ((fun j => if j = q then (ct4 q).set t (-1 - (q : Int)) else ct4 j) j).length → ((fun j => if j = q then (ct4 q).set t (-1 - (q : Int)) else ct4 j) j).getD u 0 = -1 - (j : Int)) := fun j hj u => by
                    have e : ¬ j = q := by omega
                    simp only [if_neg e]; exact M4.out j hj u
                  have H4 : Hid (∀ u, u < t + 1 → ((fun j => if j = q then (ct4 q).set t (-1 - (q : Int)) else ct4 j) q).getD u 0 = -1 - (q : Int)) := fun u hu => by
                    simp only [if_true]
                    rw [List.getD_eq_getElem?_getD, List.getElem?_set]
                    by_cases e : t = u
                    · subst e; rw [if_pos rfl, if_pos htc]; rfl
                    · rw [if_neg e, ← List.getD_eq_getElem?_getD]; exact M4q.out u (by omega)
                  clear R hclq hfrq hr hg2 eb r4 HQ4 L4 M4 M4q htc hogq hglq
                  go_wp2
                  go_roundw
                  case rel => (try ((repeat apply Exists.intro); refine ⟨?_, rfl⟩)); exact ⟨t + 1, by omega, by go_num, _, R1, H1, H2, H3, H4, eb5⟩
                  case measure => simp [intOf]; omega
                · obtain rfl : t = Q := by omega
                  have M5 : Hid (∀ j, j < q + 1 → ∀ u, u < (ct4 j).length → (ct4 j).getD u 0 = -1 - (j : Int)) := fun j hj u hu => by
                    by_cases e : j = q
                    · subst e; exact M4q.out u (by rw [HQ4.out]; exact hu)
                    · exact M4.out j (by omega) u hu
                  clear M4 M4q HQ4
                  go_wp2
                  go_roundw
                  case rel => (try ((repeat apply Exists.intro); refine ⟨?_, rfl⟩)); exact ⟨q + 1, by omega, by go_num, ct4, r4, L4, M5, eb⟩
                  case measure => simp [intOf]; omega
            · obtain rfl : q = k := by omega
              have H5 : Hid (als.length = q) := HA
              have L5 : Hid (∀ j, j < q → (ct3 j).length ≤ 4096 + 0) := L3
              obtain ⟨ii, hii, hzi0, hzi1, hzi2⟩ := info_parts infoInt
              clear HA L3 hq hlt
              go_wp2
              clear e0 e1 e2 e3 hfe
              go_loopw [11] (fun i wv => ∃ r : Nat, r ≤ 12 ∧ i = .int .i64 r ∧ ∃ ov als' ct, Rws wv ov D q als' ct ∧ Hid (als'.length = q) ∧ Hid (∀ j, j < q → (ct j).length ≤ 4096 + r) ∧ Hid (∀ j, j < q → ∀ t, t < (ct j).length → (ct j).getD t 0 = -1 - (j : Int)) ∧ EB3 w o wv ov D ps p0 q0 ava q cva (.slice avw q cvw) als') (fun i _ => 12 - (intOf i).toNat)
              case atStart => exact ⟨0, by omega, by go_num, o1, als, ct3, r3, H5, L5, M3, eb⟩
              case round =>
                clear r3 H5 L5 M3 eb
                obtain ⟨r, hr, rfl, o5, als5, ct5, r5, H5, L5, M5, eb⟩ := hrel
                by_cases hlt : r < 12
                · go_wp2
                  go_loopw [12] (fun i wv => ∃ p : Nat, p ≤ q ∧ i = .int .i64 p ∧ ∃ ov als' ct, Rws wv ov D q als' ct ∧ Hid (als'.length = q) ∧ Hid (∀ j, j < q → (ct j).length ≤ 4096 + r + (if j < p then 1 else 0)) ∧ Hid (∀ j, j < q → ∀ t, t < (ct j).length → (ct j).getD t 0 = -1 - (j : Int)) ∧ EB3 w o wv ov D ps p0 q0 ava q cva (.slice avw q cvw) als') (fun i _ => q - (intOf i).toNat)
                  case atStart => exact ⟨0, by omega, by go_num, o5, als5, ct5, r5, H5, (fun j hj => by simpa using L5.out j hj : _), M5, eb⟩
                  case round =>
                    clear r5 H5 L5 M5 eb
                    obtain ⟨p, hp, rfl, o6, als6, ct6, r6, H6, L6, M6, eb⟩ := hrel
                    obtain ⟨e0, e1, e2, e3, hfe⟩ := eb.blk.cells4
                    by_cases hlt2 : p < q
                    · obtain ⟨ga, cva', hv, hogA, hca, hma, hgl, hcla, hfra⟩ := eb.sp.pos (by omega)
                      simp only [Value.slice.injEq, true_and] at hv
                      obtain ⟨rfl, rfl⟩ := hv
                      have hpA : p < als6.length := by rw [H6.out]; exact hlt2
                      have rp := r6 p hlt2
                      have hva := rp.form
                      obtain ⟨aq, cq, hva⟩ := hva
                      rw [hva] at rp
                      obtain ⟨Q, hQ⟩ : ∃ Q, Q = (ct6 p).length := ⟨_, rfl⟩
                      have hQb : Q ≤ 4110 := by have h1 := L6.out p hlt2; rw [← hQ] at h1; split at h1 <;> omega
                      have HQ : Hid (Q = (ct6 p).length) := hQ
                      have cA := (hcla p (by omega)).trans (show als6[p]? = some (.slice aq Q cq) by rw [hQ, ← hva]; simp [hpA])
                      rw [← hQ] at rp
                      have fA := hfra p
                      unfold maxLen at hma
                      have b1 : Q + 1 ≤ maxLen := by unfold maxLen; omega
                      have b2 : (Q + 1) * 8 ≤ 140737488355328 := by omega
                      have hone : ∀ u ∈ [Value.int .i64 (-1 - (p : Int))], u.oneCell' = true := by intro u hu; simp at hu; subst hu; rfl
                      have hps := eb.blk.lt
                      have hwr : IntKind.i64.wrap (-1 - (p : Int)) = -1 - (p : Int) := by rw [IntKind.wrap_i64]; omega
                      clear hcla hfra hQ hpA hva
                      go_wp2_with fail
                      go_region_law (refine step_append_lab rfl (.tmp 135) (.tmp 138) 60 rfl 3 ii (.int .i64 0) 1 8 Try.underlying60 hii hzi0 hzi1 hzi2 rfl (by decide) o6 (D + 20 + p) _ Q (zL (ct6 p)) (by simp [Act.eval]) (rp.step (((Step.refl (fun _ => False) wr o6).alloc _).drew) (by simp)) ⟨wr.heap.size, 0, none⟩ 1 1 [.int .i64 (-1 - (p : Int))] (by simp [Act.eval]) rfl (new_one_at (by simp) _ _) hone (by decide) b1 b2 ?_; intro g7 c7 w7 o7 r7 s7; have u7 := (((Step.refl (fun x => x = D + 20 + p) wr o6).alloc _).drew).trans s7; have sp7 := eb.sp.step u7 (by omega); have cA7 := (World.cell?_of_block (w := wr) (a := ⟨ga, p, none⟩) (u7.block ga hgl (by rw [hogA]; omega))).trans cA; have fA7 := (World.frozen?_of_block (w := wr) (a := ⟨ga, p, none⟩) (u7.block ga hgl (by rw [hogA]; omega))).trans fA; obtain ⟨x0, x1, x2, x3, hfx⟩ := (eb.blk.step u7 (by omega)).cells4)
                      all_goals
                        have s8 := setStep (fun x => x = D + 1) w7 o7 ⟨ga, p, none⟩ (.slice (some ⟨g7, 0, none⟩) (Q + 1) c7) (sp7.2 ga rfl)
                        have sp8 := sp7.store p (.slice (some ⟨g7, 0, none⟩) (Q + 1) c7)
                        have eb8 : EB3 w o (w7.setCell ⟨ga, p, none⟩ (.slice (some ⟨g7, 0, none⟩) (Q + 1) c7)) o7 D ps p0 q0 (some ⟨ga, 0, none⟩) q cva (.slice avw q cvw) (als6.set p (.slice (some ⟨g7, 0, none⟩) (Q + 1) c7)) := ⟨(eb.blk.step u7 (by omega)).step s8 (by omega), sp8, (eb.st.trans (u7.mono fun x hx => SAL.mk (by omega) (by omega))).trans (s8.mono fun x hx => SAL.mk (by omega) (by omega))⟩
                        rw [zL_push] at r7
                        have e7 : Q + 1 = (ct6 p ++ [-1 - (p : Int)]).length := by rw [HQ.out]; simp
                        have r7' := r7.step s8 (show ¬ (D + 20 + p = D + 1) by omega)
                        have r8 := Rws.put (i := p) (v := .slice (some ⟨g7, 0, none⟩) (Q + 1) c7) (fun j hj hne => ((r6 j hj).step u7 (by omega)).step s8 (by omega)) H6.out hlt2 (by rw [← e7]; exact r7')
                        have H8 : Hid ((als6.set p (.slice (some ⟨g7, 0, none⟩) (Q + 1) c7)).length = q) := by show _ = _; rw [List.length_set]; exact H6.out
                        have L8 : Hid (∀ j, j < q → ((fun j => if j = p then ct6 p ++ [-1 - (p : Int)] else ct6 j) j).length ≤ 4096 + r + (if j < p + 1 then 1 else 0)) := fun j hj => by
                          by_cases e : j = p
                          · subst e
                            have h1 := L6.out j hj
                            simp only [if_true]
                            rw [← e7, if_pos (by omega), HQ.out]
                            rw [if_neg (by omega)] at h1
                            omega
                          · have h1 := L6.out j hj
                            simp only [if_neg e]
                            split at h1 <;> split <;> omega
                        have M8 : Hid (∀ j, j < q → ∀ t, t < ((fun j => if j = p then ct6 p ++ [-1 - (p : Int)] else ct6 j) j).length → ((fun j => if j = p then ct6 p ++ [-1 - (p : Int)] else ct6 j) j).getD t 0 = -1 - (j : Int)) := fun j hj t ht => by
                          by_cases e : j = p
                          · subst e
                            simp only [if_true] at ht ⊢
                            rw [getD_snoc']
                            by_cases e2 : t < (ct6 j).length
                            · rw [if_pos e2]; exact M6.out j hj t e2
                            · rw [if_neg e2, if_pos (by simp at ht; omega)]
                          · simp only [if_neg e] at ht ⊢
                            exact M6.out j hj t ht
                        clear u7 s7 s8 sp7 sp8 cA7 fA7 x0 x1 x2 x3 hfx e7 r7 r7' r6 H6 L6 M6 eb rp cA fA hwr HQ
                        go_wp2
                        go_roundw
                        case rel => (try ((repeat apply Exists.intro); refine ⟨?_, rfl⟩)); exact ⟨p + 1, by omega, by go_num, o7, _, _, r8, H8, L8, M8, eb8⟩
                        case measure => simp [intOf]; omega
                    · obtain rfl : p = q := by omega
                      have L7 : Hid (∀ j, j < p → (ct6 j).length ≤ 4096 + (r + 1)) := fun j hj => by
                        have h1 := L6.out j hj
                        rw [if_pos hj] at h1
                        omega
                      go_wp2
                      go_roundw
                      case rel => (try ((repeat apply Exists.intro); refine ⟨?_, rfl⟩)); exact ⟨r + 1, by omega, by go_num, o6, als6, ct6, r6, H6, L7, M6, eb⟩
                      case measure => simp [intOf]; omega
                · obtain rfl : r = 12 := by omega
                  obtain ⟨e0, e1, e2, e3, hfe⟩ := eb.blk.cells4
                  clear hlt hr
                  go_wp2
                  go_loopw [13] (fun i wv => ∃ p : Nat, p ≤ q ∧ i = .int .i64 p ∧ wv = wr) (fun i _ => q - (intOf i).toNat)
                  case atStart => exact ⟨0, by omega, by go_num, rfl⟩
                  case round =>
                    obtain ⟨p, hp, rfl, hww⟩ := hrel
                    rw [hww]
                    clear hww
                    by_cases hlt : p < q
                    · obtain ⟨ga, cva', hv, hogA, hca, hma, hgl, hcla, hfra⟩ := eb.sp.pos (by omega)
                      simp only [Value.slice.injEq, true_and] at hv
                      obtain ⟨rfl, rfl⟩ := hv
                      have hpA : p < als5.length := by rw [H5.out]; exact hlt
                      have rp := r5 p hlt
                      have hva := rp.form
                      obtain ⟨aq, cq, hva⟩ := hva
                      rw [hva] at rp
                      obtain ⟨Q, hQ⟩ : ∃ Q, Q = (ct5 p).length := ⟨_, rfl⟩
                      have hQb : Q ≤ 4110 := by have h1 := L5.out p hlt; rw [← hQ] at h1; omega
                      have HQ : Hid (Q = (ct5 p).length) := hQ
                      have cA := (hcla p (by omega)).trans (show als5[p]? = some (.slice aq Q cq) by rw [hQ, ← hva]; simp [hpA])
                      rw [← hQ] at rp
                      unfold maxLen at hma
                      clear hcla hfra hQ hpA hva
                      go_wp2
                      go_loopw [14] (fun i wv => ∃ t : Nat, t ≤ Q ∧ i = .int .i64 t ∧ Hid (wv = _)) (fun i _ => Q - (intOf i).toNat)
                      case atStart => exact ⟨0, by omega, by go_num, rfl⟩
                      case round =>
                        obtain ⟨t, ht, rfl, hww⟩ := hrel
                        rw [hww.out]
                        clear hww
                        by_cases hlt2 : t < Q
                        · obtain ⟨gq, cq', hv, hogq, hcq, hmq, hglq, hclq, hfrq⟩ := rp.pos (by omega)
                          simp only [Value.slice.injEq, true_and] at hv
                          obtain ⟨rfl, rfl⟩ := hv
                          have htc : t < (ct5 p).length := by rw [← HQ.out]; exact hlt2
                          have cQ := (hclq t (by omega)).trans ((zL_get _ t htc).trans (by rw [M5.out p hlt t htc]))
                          unfold maxLen at hmq
                          clear hclq hfrq htc
                          go_wp2
                          go_roundw
                          case rel => (try ((repeat apply Exists.intro); refine ⟨?_, rfl⟩)); exact ⟨t + 1, by omega, by go_num, by first | rfl | exact trivial⟩
                          case measure => simp [intOf]; omega
                        · obtain rfl : t = Q := by omega
                          go_wp2
                          go_roundw
                          case rel => (try ((repeat apply Exists.intro); refine ⟨?_, rfl⟩)); exact ⟨p + 1, by omega, by go_num, by first | rfl | trivial⟩
                          case measure => simp [intOf]; omega
                    · obtain rfl : p = q := by omega
                      clear hlt hp r5 H5 L5 M5
                      go_wp2
                      go_ret
                      exact ⟨rfl, o5, eb.st⟩
end Go.Proofs.Ythdmajddmajjoaa
