/- The end of VsetPlays: sets have what they must have; lists that came out are looked at, marked, grown, looked at again. -/
import Derived.Test.YtmnmjmhmdnjdlaaDoorSame9
import Derived.Deep.CutBlock
import Derived.Deep.DeepCutAuto
import Derived.Deep.RegionLaw
namespace Go.Proofs.YtmnmjmhmdnjdlaaDoor
open Go.ChangeShapes Go.WideShapes Go.ChangeAt Go.RowKit Go.Maps
set_option linter.unusedVariables false
set_option linter.unusedSimpArgs false

/-- What stays while the lists that came out are written. -/
structure EB9 (w : World) (o : Nat → Nat) (wv : World) (ov : Nat → Nat) (p : Nat) (ava : Option Addr) (N cva : Nat) (als : List Value) : Prop where
  ca : wv.cell? ⟨p, 260, none⟩ = some (.slice ava N cva)
  pl : p < wv.heap.size
  lb : ov p = 1
  sp : Row wv ov 2 37 1 (.slice ava N cva) N als
  st : Step (fun k => 0 < k) w o wv ov
theorem EB9.step {I : Nat → Prop} {w : World} {o : Nat → Nat} {wv wx : World} {ov ox : Nat → Nat} {p : Nat} {ava : Option Addr} {N cva : Nat} {als : List Value} (h : EB9 w o wv ov p ava N cva als) (s : Step I wv ov wx ox) (hi : ∀ k, I k → 20 ≤ k) : EB9 w o wx ox p ava N cva als :=
  ⟨(World.cell?_of_block (w := wv) (a := ⟨p, 260, none⟩) (s.block p h.pl (fun x => by have := hi _ x; rw [h.lb] at this; omega))).trans h.ca, Nat.lt_of_lt_of_le h.pl s.size, (s.lab p h.pl).trans h.lb, h.sp.step s (fun x => by have := hi _ x; omega), h.st.trans (s.mono fun k hk => by have := hi _ hk; omega)⟩
theorem EB9.step1 {i : Nat} {w : World} {o : Nat → Nat} {wv wx : World} {ov ox : Nat → Nat} {p : Nat} {ava : Option Addr} {N cva : Nat} {als : List Value} (h : EB9 w o wv ov p ava N cva als) (s : Step (fun x => x = i) wv ov wx ox) (hi : 20 ≤ i) : wx.cell? ⟨p, 260, none⟩ = some (.slice ava N cva) ∧ p < wx.heap.size ∧ ox p = 1 :=
  have q := h.step s (fun k hk => by omega)
  ⟨q.ca, q.pl, q.lb⟩
theorem EB9.next {i : Nat} {w : World} {o : Nat → Nat} {wv wx wy : World} {ov ox : Nat → Nat} {p : Nat} {ava : Option Addr} {N cva : Nat} {als als' : List Value} (h : EB9 w o wv ov p ava N cva als) (s : Step (fun x => x = i) wv ov wx ox) (hi : 20 ≤ i) (h2 : 2 ≠ i) (s2 : Step (fun x => x = 2) wx ox wy ox) (sp : Row wy ox 2 37 1 (.slice ava N cva) N als') : EB9 w o wy ox p ava N cva als' := by
  have q := h.step s (fun k hk => by omega)
  exact ⟨(World.cell?_of_block (w := wx) (a := ⟨p, 260, none⟩) (s2.block p q.pl (by rw [q.lb]; omega))).trans q.ca, Nat.lt_of_lt_of_le q.pl s2.size, q.lb, sp, q.st.trans (s2.mono fun k hk => by omega)⟩
theorem Bk.lab0 {w w' : World} {p : Nat} {S X : Nat → Nat} {va vw : Value} (h : Bk w' p S X va vw) {I : Nat → Prop} {o o' : Nat → Nat} (s : Step I w o w' o') (h0 : o p = 1) (hp : p < w.heap.size) : o' p = 1 := (s.lab p hp).trans h0

set_option maxRecDepth 100000 in
set_option maxHeartbeats 8000000 in
theorem ends9 (w : World) (o : Nat → Nat) (p : Nat) (h : BX w o p) :
    Calls Tryd.prog 7 #[.pointer (some ⟨p, 0, none⟩)] w fun e w' => e = .returned (.bool true) ∧ ∃ o', Step (fun k => 0 < k) w o w' o' := by
  obtain ⟨S, ava, cva, avw, cvw, als, wls, ls, N, hB, hop, hS, hAl, hWl, hL, hNe', hT⟩ := h
  have hla := hL.la
  have hlw := hL.lw
  have hle := hL.le
  have hNe : N = ls.length := hNe'.symm
  have eA : als.length = N := by omega
  have eW : wls.length = N := by omega
  rw [← hNe] at hle
  have HA : Hid (als.length = N) := eA
  have HW : Hid (wls.length = N) := eW
  have HNe : Hid (N = ls.length) := hNe
  have HL : Hid (Lists w o als wls ls) := hL
  obtain ⟨va, hva⟩ : ∃ va, va = Value.slice ava N cva := ⟨_, rfl⟩
  obtain ⟨vw, hvw⟩ : ∃ vw, vw = Value.slice avw N cvw := ⟨_, rfl⟩
  have HVA : Hid (va = Value.slice ava N cva) := hva
  have HVW : Hid (vw = Value.slice avw N cvw) := hvw
  rw [← hva, ← hvw] at hB
  have hpl := hB.lt
  clear hla hlw hNe eA eW hL hNe' hva hvw
  go_enter Tryd.func7, Tryd.ntmps7
  go_wp2
  go_loopw [3] (fun i wr => ∃ k : Nat, k ≤ 4 ∧ i = .int .i64 (k : Nat) ∧ ∃ o1, Step (fun k => k = 98 ∨ k = 99) w o wr o1) (fun i _ => 4 - (intOf i).toNat)
  case atStart => exact ⟨0, by omega, by go_num, o, Step.refl _ _ _⟩
  case round =>
    obtain ⟨k, hk, rfl, o1, st1⟩ := hrel
    have KB := hB.step st1 (by rw [hop]; omega)
    have hop1 : o1 p = 1 := (hB.lab st1).trans hop
    by_cases hlt : k < 4
    · have T1 := (hT.step st1 (by omega)).step ((Step.refl (fun _ => False) wr o1).drew) id
      have hk4 : k < 4 := hlt
      have hkI : (k : Int) < 4 := by omega
      have hall := fun wx ox hh => all_c (S k) wx ox 98 (hS k hlt) hh (by omega)
      have hral := fun wx ox => refAll_c (S k) wx ox 99 (hS k hlt)
      have hlen : (al (S k)).length ≤ 5000 := by have := pre9_len (S k) 64; rw [pre9_all] at this; omega
      have hplr : p < wr.drew.heap.size := KB.lt
      unfold sv at hall
      unfold av at hral
      clear HL HA HW HNe hAl hWl hT hB
      go_upto_region 4 with fail
      refine wp_region_noPanic ?_
      refine wp_region_held_drew (S := fun wx => Bk wx p S S va vw) (by kernel_rfl) (KB.blk rfl) (fun hHeld => ?_)
      refine wpAnyH_take (i := 0) (v := ?v1) rfl (by kernel_rfl) (by kernel_rfl) (by kernel_rfl) (fun _ _ _ h => h) (Or.inl ⟨by rfl, ?hy1⟩) (by assumption) ?rest1
      case hy1 => (intro w hSw; (try dsimp only at hSw); go_simp; all_goals (with_reducible rfl))
      simp only [Act.put, List.getElem_toArray, List.getElem_cons_zero, List.getElem_cons_succ, List.setIfInBounds_toArray, List.set_cons_zero, List.set_cons_succ]
      refine wpAnyH_take (i := 1) (v := ?v2) rfl (by kernel_rfl) (by kernel_rfl) (by kernel_rfl) (fun _ _ _ h => h) (Or.inl ⟨by rfl, ?hy2⟩) (by assumption) ?rest2
      case hy2 => (intro w hSw; (try dsimp only at hSw); go_simp; all_goals (with_reducible rfl))
      simp only [Act.put, List.getElem_toArray, List.getElem_cons_zero, List.getElem_cons_succ, List.setIfInBounds_toArray, List.set_cons_zero, List.set_cons_succ]
      refine wpAnyH_take (i := 2) (v := ?v3) rfl (by kernel_rfl) (by kernel_rfl) (by kernel_rfl) (fun _ _ _ h => h) (Or.inl ⟨by rfl, ?hy3⟩) (by assumption) ?rest3
      case hy3 => (intro w hSw; (try dsimp only at hSw); go_simp; all_goals (with_reducible rfl))
      simp only [Act.put, List.getElem_toArray, List.getElem_cons_zero, List.getElem_cons_succ, List.setIfInBounds_toArray, List.set_cons_zero, List.set_cons_succ]
      refine wpAnyH_take (i := 3) (v := ?v4) rfl (by kernel_rfl) (by kernel_rfl) (by kernel_rfl) (fun _ _ _ h => h) (Or.inl ⟨by rfl, ?hy4⟩) (by assumption) ?rest4
      case hy4 => (intro w hSw; (try dsimp only at hSw); go_simp; all_goals (with_reducible rfl))
      simp only [Act.put, List.getElem_toArray, List.getElem_cons_zero, List.getElem_cons_succ, List.setIfInBounds_toArray, List.set_cons_zero, List.set_cons_succ]
      refine wpAnyH_take (i := 4) (v := ?v5) rfl (by kernel_rfl) (by kernel_rfl) (by kernel_rfl) (fun _ _ _ h => h) (Or.inl ⟨by rfl, ?hy5⟩) (by assumption) ?rest5
      case hy5 => (intro w hSw; (try dsimp only at hSw); go_simp; all_goals (with_reducible rfl))
      simp only [Act.put, List.getElem_toArray, List.getElem_cons_zero, List.getElem_cons_succ, List.setIfInBounds_toArray, List.set_cons_zero, List.set_cons_succ]
      refine wpAnyH_take (i := 5) (v := ?v6) rfl (by kernel_rfl) (by kernel_rfl) (by kernel_rfl) (fun _ _ _ h => h) (Or.inl ⟨by rfl, ?hy6⟩) (by assumption) ?rest6
      case hy6 => (intro w hSw; (try dsimp only at hSw); have c5 := hSw.s k hk4; go_simp; all_goals (with_reducible rfl))
      simp only [Act.put, List.getElem_toArray, List.getElem_cons_zero, List.getElem_cons_succ, List.setIfInBounds_toArray, List.set_cons_zero, List.set_cons_succ]
      refine wpAnyH_take (i := 7) (v := ?v7) rfl (by kernel_rfl) (by kernel_rfl) (by kernel_rfl) (fun _ _ _ h => h) (Or.inl ⟨by rfl, ?hy7⟩) (by assumption) ?rest7
      case hy7 => (intro w hSw; (try dsimp only at hSw); go_simp; all_goals (with_reducible rfl))
      simp only [Act.put, List.getElem_toArray, List.getElem_cons_zero, List.getElem_cons_succ, List.setIfInBounds_toArray, List.set_cons_zero, List.set_cons_succ]
      refine wpAnyH_take (i := 8) (v := ?v8) rfl (by kernel_rfl) (by kernel_rfl) (by kernel_rfl) (fun _ _ _ h => h) (Or.inl ⟨by rfl, ?hy8⟩) (by assumption) ?rest8
      case hy8 => (intro w hSw; (try dsimp only at hSw); go_simp; all_goals (with_reducible rfl))
      simp only [Act.put, List.getElem_toArray, List.getElem_cons_zero, List.getElem_cons_succ, List.setIfInBounds_toArray, List.set_cons_zero, List.set_cons_succ]
      refine wpAnyH_take (i := 9) (v := ?v9) rfl (by kernel_rfl) (by kernel_rfl) (by kernel_rfl) (fun _ _ _ h => h) (Or.inl ⟨by rfl, ?hy9⟩) (by assumption) ?rest9
      case hy9 => (intro w hSw; (try dsimp only at hSw); go_simp; all_goals (with_reducible rfl))
      simp only [Act.put, List.getElem_toArray, List.getElem_cons_zero, List.getElem_cons_succ, List.setIfInBounds_toArray, List.set_cons_zero, List.set_cons_succ]
      refine wpAnyH_take (i := 10) (v := ?v10) rfl (by kernel_rfl) (by kernel_rfl) (by kernel_rfl) (fun _ _ _ h => h) (Or.inl ⟨by rfl, ?hy10⟩) (by assumption) ?rest10
      case hy10 => (intro w hSw; (try dsimp only at hSw); go_simp; all_goals (with_reducible rfl))
      simp only [Act.put, List.getElem_toArray, List.getElem_cons_zero, List.getElem_cons_succ, List.setIfInBounds_toArray, List.set_cons_zero, List.set_cons_succ]
      refine wpAnyH_take (i := 11) (v := ?v11) rfl (by kernel_rfl) (by kernel_rfl) (by kernel_rfl) (fun _ _ _ h => h) (Or.inl ⟨by rfl, ?hy11⟩) (by assumption) ?rest11
      case hy11 => (intro w hSw; (try dsimp only at hSw); go_simp; all_goals (with_reducible rfl))
      simp only [Act.put, List.getElem_toArray, List.getElem_cons_zero, List.getElem_cons_succ, List.setIfInBounds_toArray, List.set_cons_zero, List.set_cons_succ]
      refine wpAnyH_take (i := 12) (v := .agg (b64 (S k)).toArray) rfl (by kernel_rfl) (by kernel_rfl) (by kernel_rfl) (fun _ _ _ h => h) (yieldsIf_load_mid (by rfl) 31 _ rfl p (4 + k * 64) rfl (b64 (S k)) _ (fun w hSw => hSw.x k hk4) Tryd.underlying31 rfl (sizeSet9 _)) (by assumption) ?_
      simp only [Act.put, List.getElem_toArray, List.getElem_cons_zero, List.getElem_cons_succ, List.setIfInBounds_toArray, List.set_cons_zero, List.set_cons_succ]
      refine wpAnyH_ready (rs := [6]) (by kernel_rfl) (by simp) ?_
      refine AllReadyH.cons rfl (fun K hK => ?_) AllReadyH.nil
      go_simp
      refine (hall wr.drew o1 T1).mono ?_
      rintro e wA ⟨vA, oA, rfl, rA, sA⟩
      have uA := (st1.drew).trans (sA.mono fun _ h => Or.inl h)
      have kA := (KB.blk (w' := wr.drew) rfl).step sA (by rw [hop1]; omega)
      dsimp only
      refine hK.out _ _ kA (fun hHeld => ?_)
      clear hK K
      try simp only [Act.put, List.getElem_toArray, List.getElem_cons_zero, List.getElem_cons_succ, List.setIfInBounds_toArray, List.set_cons_zero, List.set_cons_succ]
      refine wpAnyH_ready (rs := [13]) (by kernel_rfl) (by simp) ?_
      refine AllReadyH.cons rfl (fun K hK => ?_) AllReadyH.nil
      go_simp
      refine (hral wA oA).mono ?_
      rintro e wB ⟨vB, oB, rfl, rB, sB⟩
      have uB := uA.trans (sB.mono fun _ h => Or.inr h)
      have kB := kA.step sB (by rw [kA.lab0 sA hop1 hplr]; omega)
      have rX := rA.step sB (by omega)
      have rY := rB
      dsimp only
      refine hK.out _ _ kB (fun hHeld => ?_)
      clear hK K
      try simp only [Act.put, List.getElem_toArray, List.getElem_cons_zero, List.getElem_cons_succ, List.setIfInBounds_toArray, List.set_cons_zero, List.set_cons_succ]
      refine wpAnyH_ready (rs := [14]) (by kernel_rfl) (by simp) ?_
      refine AllReadyH.cons rfl (fun K hK => ?_) AllReadyH.nil
      go_simp
      refine (same_yes _ oB oB _ _ (al (S k)).length (al (S k)) _ _ rfl hlen rX rY).mono ?_
      rintro e wC ⟨rfl, mC, rfl⟩
      dsimp only
      refine hK.out _ _ (kB.blk rfl) (fun hHeld => ?_)
      clear hK K
      try simp only [Act.put, List.getElem_toArray, List.getElem_cons_zero, List.getElem_cons_succ, List.setIfInBounds_toArray, List.set_cons_zero, List.set_cons_succ]
      refine wpAnyH_take (i := 15) (v := ?v12) rfl (by kernel_rfl) (by kernel_rfl) (by kernel_rfl) (fun _ _ _ h => h) (Or.inl ⟨by rfl, ?hy12⟩) (by assumption) ?rest12
      case hy12 => (intro w hSw; (try dsimp only at hSw); go_simp; all_goals (with_reducible rfl))
      simp only [Act.put, List.getElem_toArray, List.getElem_cons_zero, List.getElem_cons_succ, List.setIfInBounds_toArray, List.set_cons_zero, List.set_cons_succ]
      refine wpAnyH_done (by kernel_rfl) ?_ _
      refine NoPanic.normal ?_
      go_wp2
      go_roundw
      case rel => (try ((repeat apply Exists.intro); refine ⟨?_, rfl⟩)); exact ⟨k + 1, by omega, by go_num, oB, uB.drewN _⟩
      case measure => simp [intOf]; omega
    · obtain rfl : k = 4 := by omega
      have sv1 : Step (fun k => 0 < k) w o wr o1 := st1.mono (fun k hk => by omega)
      have hAl := hAl.step st1 (by omega)
      have hWl := hWl.step st1 (by omega)
      have HL : Hid (Lists wr o1 als wls ls) := HL.out.step st1 (fun k h1 h2 => by omega)
      have K9 := KB
      rw [HVA.out, HVW.out] at K9
      clear hT hS hB hlt hk st1 KB HVA HVW hop hpl va vw
      obtain ⟨w1, hw1⟩ : ∃ w1, w1 = wr := ⟨_, rfl⟩
      rw [← hw1] at sv1 hAl hWl HL K9 ⊢
      clear hw1
      have c3 := K9.a
      have c4 := K9.v
      go_wp2
      go_loopw [5] (fun i wv => ∃ k : Nat, k ≤ N ∧ i = .int .i64 k ∧ Step (fun _ => False) w1 o1 wv o1) (fun i _ => N - (intOf i).toNat)
      case atStart => exact ⟨0, by omega, by go_num, Step.refl _ _ _⟩
      case round =>
        obtain ⟨k, hk, rfl, sv⟩ := hrel
        have KB := K9.step sv id
        have vAl := hAl.step sv id
        have vWl := hWl.step sv id
        have HLv : Hid (Lists _ o1 als wls ls) := HL.out.step sv (fun _ _ _ => id)
        clear c3 c4
        have c3 := KB.a
        have c4 := KB.v
        by_cases hlt : k < N
        · obtain ⟨ga, cva', hv, _, hca, hma, _, hcla, _⟩ := vAl.pos (by omega)
          simp only [Value.slice.injEq, true_and] at hv
          obtain ⟨rfl, rfl⟩ := hv
          obtain ⟨gw, cvw', hv, _, hcw, hmw, _, hclw, _⟩ := vWl.pos (by omega)
          simp only [Value.slice.injEq, true_and] at hv
          obtain ⟨rfl, rfl⟩ := hv
          have hkA : k < als.length := by rw [HA.out]; exact hlt
          have hkW : k < wls.length := by rw [HW.out]; exact hlt
          have cA := (hcla k (by omega)).trans (show als[k]? = some (als.getD k (.slice none 0 0)) by simp [hkA])
          have cW := (hclw k (by omega)).trans (show wls[k]? = some (wls.getD k (.slice none 0 0)) by simp [hkW])
          have hkl : k < ls.length := by rw [← HNe.out]; exact hlt
          have hs := fun m' => same_yes (World.drewN _ m') o1 o1 _ _ (ls.getD k []).length (ls.getD k []) _ _ rfl (by have := HLv.out.len k hkl; omega) (HLv.out.all k hkl) (HLv.out.was k hkl)
          obtain ⟨xa, hxa⟩ : ∃ xa, xa = als.getD k (.slice none 0 0) := ⟨_, rfl⟩
          obtain ⟨xw, hxw⟩ : ∃ xw, xw = wls.getD k (.slice none 0 0) := ⟨_, rfl⟩
          rw [← hxa] at cA hs
          rw [← hxw] at cW hs
          unfold maxLen at hma hmw
          clear hcla hclw hxa hxw hkA hkW hkl KB
          go_wp2
          go_quiet ((go_at_call 10; exact Calls.quiet_of (hs _)))
          clear hs
          go_wp2
          go_roundw
          case rel => (try ((repeat apply Exists.intro); refine ⟨?_, rfl⟩)); exact ⟨k + 1, by omega, by go_num, sv.drewN _⟩
          case measure => simp [intOf]; omega
        · obtain rfl : k = N := by omega
          have kRw := Rws.ofLists HLv.out
          rw [← HNe.out] at kRw
          obtain ⟨ct, kRw, ctl⟩ : ∃ ct, Rws wr o1 k als ct ∧ Hid (∀ j, j < k → (ct j).length ≤ 4096) := ⟨_, kRw, fun j hj => by rw [List.length_map]; exact HLv.out.len j (by rw [← HNe.out]; exact hj)⟩
          have eb : EB9 w o wr o1 p ava k cva als := ⟨KB.a, KB.lt, hop1, vAl, sv1.trans (sv.mono (fun _ h => h.elim))⟩
          clear sv1
          clear hlt HL HLv HW HNe hWl vWl hAl vAl hk K9 KB sv
          go_wp2
          clear c3 c4
          go_loopw [7] (fun i wv => ∃ q : Nat, q ≤ k ∧ i = .int .i64 q ∧ ∃ ct, Rws wv o1 k als ct ∧ Hid (∀ j, j < k → (ct j).length ≤ 4096) ∧ Hid (∀ j, j < q → ∀ t, t < (ct j).length → (ct j).getD t 0 = -1 - (j : Int)) ∧ EB9 w o wv o1 p ava k cva als) (fun i _ => k - (intOf i).toNat)
          case atStart => exact ⟨0, by omega, by go_num, ct, kRw, ctl, (fun j hj => by omega : _), eb⟩
          case round =>
            clear eb kRw ctl ct
            obtain ⟨q, hq, rfl, ct3, r3, L3, M3, eb⟩ := hrel
            have e3 := eb.ca
            by_cases hlt : q < k
            · have lS := eb.sp
              obtain ⟨ga, cva', hv, hogA, hca, hma, hgl, hcla, _⟩ := lS.pos (by omega)
              simp only [Value.slice.injEq, true_and] at hv
              obtain ⟨rfl, rfl⟩ := hv
              have hqA : q < als.length := by rw [HA.out]; exact hlt
              have hva := (r3 q hlt).form
              obtain ⟨aq, cq, hva⟩ := hva
              have HV : Hid (als.getD q (.slice none 0 0) = .slice aq (ct3 q).length cq) := hva
              unfold maxLen at hma
              obtain ⟨Q, hQ⟩ : ∃ Q, Q = (ct3 q).length := ⟨_, rfl⟩
              have hQb : Q ≤ 4096 := by rw [hQ]; exact L3.out q hlt
              have HQ : Hid (Q = (ct3 q).length) := hQ
              have HCa : Hid (als[q]? = some (.slice aq Q cq)) := by rw [hQ, ← hva]; show als[q]? = _; simp [hqA]
              clear hqA hva hQ hcla lS
              go_wp2
              go_loopw [8] (fun i wv => ∃ t : Nat, t ≤ Q ∧ i = .int .i64 t ∧ ∃ ct, Rws wv o1 k als ct ∧ Hid (Q = (ct q).length) ∧ Hid (∀ j, j < k → (ct j).length ≤ 4096) ∧ Hid (∀ j, j < q → ∀ t, t < (ct j).length → (ct j).getD t 0 = -1 - (j : Int)) ∧ Hid (∀ u, u < t → (ct q).getD u 0 = -1 - (q : Int)) ∧ EB9 w o wv o1 p (some ⟨ga, 0, none⟩) k cva als) (fun i _ => Q - (intOf i).toNat)
              case atStart => exact ⟨0, by omega, by go_num, ct3, r3, HQ, L3, M3, (fun u hu => by omega : _), eb⟩
              case round =>
                clear e3 eb r3 L3 M3 HQ HV hogA hgl
                obtain ⟨t, ht, rfl, ct4, r4, HQ4, L4, M4, M4q, eb⟩ := hrel
                have e3 := eb.ca
                have cA : wr.cell? ⟨ga, q, none⟩ = some (.slice aq Q cq) := (eb.sp.1.cellAt q (by omega)).trans HCa.out
                by_cases hlt2 : t < Q
                · have hr := r4 q hlt
                  have hg2 : als.getD q (.slice none 0 0) = .slice aq Q cq := by rw [List.getD_eq_getElem?_getD, HCa.out]; rfl
                  rw [hg2] at hr
                  obtain ⟨gq, cq', hv, hogq, hcq, hmq, hglq, hclq, hfrq⟩ := hr.pos (by rw [← HQ4.out]; omega)
                  simp only [Value.slice.injEq] at hv
                  obtain ⟨rfl, _, rfl⟩ := hv
                  have htc : t < (ct4 q).length := by rw [← HQ4.out]; exact hlt2
                  have cQ : wr.cell? ⟨gq, t, none⟩ = some (.int .i64 ((ct4 q).getD t 0)) := (hclq t (by omega)).trans (zL_get _ t htc)
                  have fQ := hfrq t
                  rw [← HQ4.out] at hcq
                  unfold maxLen at hmq
                  have R := Rws.store r4 hlt (by rw [← HQ4.out]; exact hg2) t (-1 - (q : Int))
                  have R1 := R.1
                  have eb5 := eb.step R.2 (fun x hx => by omega)
                  have hne : (gq : Nat) ≠ ga := fun e => by have := eb.sp.2 ga rfl; rw [← e] at this; omega
                  have H1 : Hid (Q = ((fun j => if j = q then (ct4 q).set t (-1 - (q : Int)) else ct4 j) q).length) := by show Q = _; simp only [if_true, List.length_set]; exact HQ4.out
                  have H2 : Hid (∀ j, j < k → ((fun j => if j = q then (ct4 q).set t (-1 - (q : Int)) else ct4 j) j).length ≤ 4096) := fun j hj => by
                    by_cases e : j = q
                    · simp only [if_pos e, List.length_set]; exact L4.out q hlt
                    · simp only [if_neg e]; exact L4.out j hj
                  have H3 : Hid (∀ j, j < q → ∀ u, u < ((fun j => if j = q then (ct4 q).set t (-1 - (q : Int)) else ct4 j) j).length → ((fun j => if j = q then (ct4 q).set t (-1 - (q : Int)) else ct4 j) j).getD u 0 = -1 - (j : Int)) := fun j hj u => by
                    have e : ¬ j = q := by omega
                    simp only [if_neg e]; exact M4.out j hj u
                  have H4 : Hid (∀ u, u < t + 1 → ((fun j => if j = q then (ct4 q).set t (-1 - (q : Int)) else ct4 j) q).getD u 0 = -1 - (q : Int)) := fun u hu => by
                    simp only [if_true]
                    rw [List.getD_eq_getElem?_getD, List.getElem?_set]
                    by_cases e : t = u
                    · subst e; rw [if_pos rfl, if_pos htc]; rfl
                    · rw [if_neg e, ← List.getD_eq_getElem?_getD]; exact M4q.out u (by omega)
                  clear R hclq hfrq hr hg2 eb r4 HQ4 L4 M4 M4q htc hogq hglq
                  go_wp2
                  go_roundw
                  case rel => (try ((repeat apply Exists.intro); refine ⟨?_, rfl⟩)); exact ⟨t + 1, by omega, by go_num, _, R1, H1, H2, H3, H4, eb5⟩
                  case measure => simp [intOf]; omega
                · obtain rfl : t = Q := by omega
                  have M5 : Hid (∀ j, j < q + 1 → ∀ u, u < (ct4 j).length → (ct4 j).getD u 0 = -1 - (j : Int)) := fun j hj u hu => by
                    by_cases e : j = q
                    · subst e; exact M4q.out u (by rw [HQ4.out]; exact hu)
                    · exact M4.out j (by omega) u hu
                  clear M4 M4q HQ4
                  go_wp2
                  go_roundw
                  case rel => (try ((repeat apply Exists.intro); refine ⟨?_, rfl⟩)); exact ⟨q + 1, by omega, by go_num, ct4, r4, L4, M5, eb⟩
                  case measure => simp [intOf]; omega
            · obtain rfl : q = k := by omega
              have H5 : Hid (als.length = q) := HA
              have L5 : Hid (∀ j, j < q → (ct3 j).length ≤ 4096 + 0) := L3
              obtain ⟨ii, hii, hzi0, hzi1, hzi2⟩ := info_parts infoInt
              clear HA L3 hq hlt
              go_wp2
              clear e3
              go_loopw [9] (fun i wv => ∃ r : Nat, r ≤ 12 ∧ i = .int .i64 r ∧ ∃ ov als' ct, Rws wv ov q als' ct ∧ Hid (als'.length = q) ∧ Hid (∀ j, j < q → (ct j).length ≤ 4096 + r) ∧ Hid (∀ j, j < q → ∀ t, t < (ct j).length → (ct j).getD t 0 = -1 - (j : Int)) ∧ EB9 w o wv ov p ava q cva als') (fun i _ => 12 - (intOf i).toNat)
              case atStart => exact ⟨0, by omega, by go_num, o1, als, ct3, r3, H5, L5, M3, eb⟩
              case round =>
                clear r3 H5 L5 M3 eb
                obtain ⟨r, hr, rfl, o5, als5, ct5, r5, H5, L5, M5, eb⟩ := hrel
                by_cases hlt : r < 12
                · go_wp2
                  go_loopw [10] (fun i wv => ∃ p' : Nat, p' ≤ q ∧ i = .int .i64 p' ∧ ∃ ov als' ct, Rws wv ov q als' ct ∧ Hid (als'.length = q) ∧ Hid (∀ j, j < q → (ct j).length ≤ 4096 + r + (if j < p' then 1 else 0)) ∧ Hid (∀ j, j < q → ∀ t, t < (ct j).length → (ct j).getD t 0 = -1 - (j : Int)) ∧ EB9 w o wv ov p ava q cva als') (fun i _ => q - (intOf i).toNat)
                  case atStart => exact ⟨0, by omega, by go_num, o5, als5, ct5, r5, H5, (fun j hj => by simpa using L5.out j hj : _), M5, eb⟩
                  case round =>
                    clear r5 H5 L5 M5 eb
                    obtain ⟨p', hp, rfl, o6, als6, ct6, r6, H6, L6, M6, eb⟩ := hrel
                    have e3 := eb.ca
                    by_cases hlt2 : p' < q
                    · obtain ⟨ga, cva', hv, hogA, hca, hma, hgl, hcla, hfra⟩ := eb.sp.pos (by omega)
                      simp only [Value.slice.injEq, true_and] at hv
                      obtain ⟨rfl, rfl⟩ := hv
                      have hpA : p' < als6.length := by rw [H6.out]; exact hlt2
                      have rp := r6 p' hlt2
                      have hva := rp.form
                      obtain ⟨aq, cq, hva⟩ := hva
                      rw [hva] at rp
                      obtain ⟨Q, hQ⟩ : ∃ Q, Q = (ct6 p').length := ⟨_, rfl⟩
                      have hQb : Q ≤ 4110 := by have h1 := L6.out p' hlt2; rw [← hQ] at h1; split at h1 <;> omega
                      have HQ : Hid (Q = (ct6 p').length) := hQ
                      have cA := (hcla p' (by omega)).trans (show als6[p']? = some (.slice aq Q cq) by rw [hQ, ← hva]; simp [hpA])
                      rw [← hQ] at rp
                      have fA := hfra p'
                      unfold maxLen at hma
                      have b1 : Q + 1 ≤ maxLen := by unfold maxLen; omega
                      have b2 : (Q + 1) * 8 ≤ 140737488355328 := by omega
                      have hone : ∀ u ∈ [Value.int .i64 (-1 - (p' : Int))], u.oneCell' = true := by intro u hu; simp at hu; subst hu; rfl
                      have hps := eb.pl
                      have hwr : IntKind.i64.wrap (-1 - (p' : Int)) = -1 - (p' : Int) := by rw [IntKind.wrap_i64]; omega
                      clear hcla hfra hQ hpA hva
                      go_wp2_with fail
                      go_region_law (refine step_append_lab rfl (.tmp 116) (.tmp 119) 37 rfl 3 ii (.int .i64 0) 1 8 Tryd.underlying37 hii hzi0 hzi1 hzi2 rfl (by decide) o6 (20 + p') _ Q (zL (ct6 p')) (by simp [Act.eval]) (rp.step (((Step.refl (fun _ => False) wr o6).alloc _).drew) (by simp)) ⟨wr.heap.size, 0, none⟩ 1 1 [.int .i64 (-1 - (p' : Int))] (by simp [Act.eval]) rfl (new_one_at (by simp) _ _) hone (by decide) b1 b2 ?_; intro g7 c7 w7 o7 r7 s7; have u7 := (((Step.refl (fun x => x = 20 + p') wr o6).alloc _).drew).trans s7; have sp7 := eb.sp.step u7 (by omega); have cA7 := (World.cell?_of_block (w := wr) (a := ⟨ga, p', none⟩) (u7.block ga hgl (by rw [hogA]; omega))).trans cA; have fA7 := (World.frozen?_of_block (w := wr) (a := ⟨ga, p', none⟩) (u7.block ga hgl (by rw [hogA]; omega))).trans fA; have x3 := (eb.step1 u7 (by omega)).1)
                      all_goals
                        have s8 := setStep (fun x => x = 2) w7 o7 ⟨ga, p', none⟩ (.slice (some ⟨g7, 0, none⟩) (Q + 1) c7) (sp7.2 ga rfl)
                        have sp8 := sp7.store p' (.slice (some ⟨g7, 0, none⟩) (Q + 1) c7)
                        have eb8 : EB9 w o (w7.setCell ⟨ga, p', none⟩ (.slice (some ⟨g7, 0, none⟩) (Q + 1) c7)) o7 p (some ⟨ga, 0, none⟩) q cva (als6.set p' (.slice (some ⟨g7, 0, none⟩) (Q + 1) c7)) := EB9.next eb u7 (by omega) (by omega) s8 sp8
                        rw [zL_push] at r7
                        have e7 : Q + 1 = (ct6 p' ++ [-1 - (p' : Int)]).length := by rw [HQ.out]; simp
                        have r7' := r7.step s8 (show ¬ (20 + p' = 2) by omega)
                        have r8 := Rws.put (i := p') (v := .slice (some ⟨g7, 0, none⟩) (Q + 1) c7) (fun j hj hne => ((r6 j hj).step u7 (by omega)).step s8 (by omega)) H6.out hlt2 (by rw [← e7]; exact r7')
                        have H8 : Hid ((als6.set p' (.slice (some ⟨g7, 0, none⟩) (Q + 1) c7)).length = q) := by show _ = _; rw [List.length_set]; exact H6.out
                        have L8 : Hid (∀ j, j < q → ((fun j => if j = p' then ct6 p' ++ [-1 - (p' : Int)] else ct6 j) j).length ≤ 4096 + r + (if j < p' + 1 then 1 else 0)) := fun j hj => by
                          by_cases e : j = p'
                          · subst e
                            have h1 := L6.out j hj
                            simp only [if_true]
                            rw [← e7, if_pos (by omega), HQ.out]
                            rw [if_neg (by omega)] at h1
                            omega
                          · have h1 := L6.out j hj
                            simp only [if_neg e]
                            split at h1 <;> split <;> omega
                        have M8 : Hid (∀ j, j < q → ∀ t, t < ((fun j => if j = p' then ct6 p' ++ [-1 - (p' : Int)] else ct6 j) j).length → ((fun j => if j = p' then ct6 p' ++ [-1 - (p' : Int)] else ct6 j) j).getD t 0 = -1 - (j : Int)) := fun j hj t ht => by
                          by_cases e : j = p'
                          · subst e
                            simp only [if_true] at ht ⊢
                            rw [getD_snoc']
                            by_cases e2 : t < (ct6 j).length
                            · rw [if_pos e2]; exact M6.out j hj t e2
                            · rw [if_neg e2, if_pos (by simp at ht; omega)]
                          · simp only [if_neg e] at ht ⊢
                            exact M6.out j hj t ht
                        clear u7 s7 s8 sp7 sp8 cA7 fA7 x3 e7 r7 r7' r6 H6 L6 M6 eb rp cA fA hwr HQ
                        go_wp2
                        go_roundw
                        case rel => (try ((repeat apply Exists.intro); refine ⟨?_, rfl⟩)); exact ⟨p' + 1, by omega, by go_num, o7, _, _, r8, H8, L8, M8, eb8⟩
                        case measure => simp [intOf]; omega
                    · obtain rfl : p' = q := by omega
                      have L7 : Hid (∀ j, j < p' → (ct6 j).length ≤ 4096 + (r + 1)) := fun j hj => by
                        have h1 := L6.out j hj
                        rw [if_pos hj] at h1
                        omega
                      go_wp2
                      go_roundw
                      case rel => (try ((repeat apply Exists.intro); refine ⟨?_, rfl⟩)); exact ⟨r + 1, by omega, by go_num, o6, als6, ct6, r6, H6, L7, M6, eb⟩
                      case measure => simp [intOf]; omega
                · obtain rfl : r = 12 := by omega
                  have e3 := eb.ca
                  clear hlt hr
                  go_wp2
                  go_loopw [11] (fun i wv => ∃ p' : Nat, p' ≤ q ∧ i = .int .i64 p' ∧ wv = wr) (fun i _ => q - (intOf i).toNat)
                  case atStart => exact ⟨0, by omega, by go_num, rfl⟩
                  case round =>
                    obtain ⟨p', hp, rfl, hww⟩ := hrel
                    rw [hww]
                    clear hww
                    by_cases hlt : p' < q
                    · obtain ⟨ga, cva', hv, hogA, hca, hma, hgl, hcla, hfra⟩ := eb.sp.pos (by omega)
                      simp only [Value.slice.injEq, true_and] at hv
                      obtain ⟨rfl, rfl⟩ := hv
                      have hpA : p' < als5.length := by rw [H5.out]; exact hlt
                      have rp := r5 p' hlt
                      have hva := rp.form
                      obtain ⟨aq, cq, hva⟩ := hva
                      rw [hva] at rp
                      obtain ⟨Q, hQ⟩ : ∃ Q, Q = (ct5 p').length := ⟨_, rfl⟩
                      have hQb : Q ≤ 4110 := by have h1 := L5.out p' hlt; rw [← hQ] at h1; omega
                      have HQ : Hid (Q = (ct5 p').length) := hQ
                      have cA := (hcla p' (by omega)).trans (show als5[p']? = some (.slice aq Q cq) by rw [hQ, ← hva]; simp [hpA])
                      rw [← hQ] at rp
                      unfold maxLen at hma
                      clear hcla hfra hQ hpA hva
                      go_wp2
                      go_loopw [12] (fun i wv => ∃ t : Nat, t ≤ Q ∧ i = .int .i64 t ∧ Hid (wv = _)) (fun i _ => Q - (intOf i).toNat)
                      case atStart => exact ⟨0, by omega, by go_num, rfl⟩
                      case round =>
                        obtain ⟨t, ht, rfl, hww⟩ := hrel
                        rw [hww.out]
                        clear hww
                        by_cases hlt2 : t < Q
                        · obtain ⟨gq, cq', hv, hogq, hcq, hmq, hglq, hclq, hfrq⟩ := rp.pos (by omega)
                          simp only [Value.slice.injEq, true_and] at hv
                          obtain ⟨rfl, rfl⟩ := hv
                          have htc : t < (ct5 p').length := by rw [← HQ.out]; exact hlt2
                          have cQ := (hclq t (by omega)).trans ((zL_get _ t htc).trans (by rw [M5.out p' hlt t htc]))
                          unfold maxLen at hmq
                          clear hclq hfrq htc
                          go_wp2
                          go_roundw
                          case rel => (try ((repeat apply Exists.intro); refine ⟨?_, rfl⟩)); exact ⟨t + 1, by omega, by go_num, by first | rfl | exact trivial⟩
                          case measure => simp [intOf]; omega
                        · obtain rfl : t = Q := by omega
                          go_wp2
                          go_roundw
                          case rel => (try ((repeat apply Exists.intro); refine ⟨?_, rfl⟩)); exact ⟨p' + 1, by omega, by go_num, by first | rfl | trivial⟩
                          case measure => simp [intOf]; omega
                    · obtain rfl : p' = q := by omega
                      clear hlt hp r5 H5 L5 M5
                      go_wp2
                      go_ret
                      exact ⟨rfl, _, eb.st⟩
end Go.Proofs.YtmnmjmhmdnjdlaaDoor
