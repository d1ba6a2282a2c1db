/- The end of VsetFamilies' side. -/
import Derived.Test.YtmpkhbblakfglaaDoorFamWalk9
import Derived.Deep.CutBlock
import Derived.Deep.DeepCutAuto
import Derived.Deep.RegionLaw
namespace Go.Proofs.YtmpkhbblakfglaaDoor
open Go.ChangeShapes Go.WideShapes Go.ChangeAt Go.RowKit Go.Maps
set_option linter.unusedVariables false
set_option linter.unusedSimpArgs false

/-- The text of one byte. -/
def one9 (i : Nat) : ByteArray := ⟨#[UInt8.ofNat i]⟩
/-- The mark of list i. -/
def ov9 (i : Nat) : ByteArray := ⟨#[111, 118, 101, 114]⟩ ++ one9 i
theorem one_conv (w : World) (i : Nat) (hi : i < 256) :
    (convert 70 9 (.slice (some ⟨w.heap.size, 0, none⟩) 1 1)).run Tryd.prog (w.alloc (.cells #[.int .u8 (i : Int)] 5)) = .ok (.string (one9 i)) (w.alloc (.cells #[.int .u8 (i : Int)] 5)) := by
  have b : ((UInt8.ofNat i).toNat : Int) = i := by
    rw [UInt8.toNat_ofNat']
    omega
  exact run_convert_bytes_back (P := Tryd.prog) (w.alloc (.cells #[.int .u8 (i : Int)] 5)) 70 9 5 ⟨w.heap.size, 0, none⟩ 1 [UInt8.ofNat i] Tryd.underlying70 Tryd.underlying5 Tryd.underlying9 (fun j hj => by
    match j, hj with
    | 0, _ => simp only [List.getElem_cons_zero]; rw [b]; simp [Addr.add])

/-- The rows of the lists that came out, whatever is written into them. -/
def RwT (w : World) (o : Nat → Nat) (B N : Nat) (als : List Value) (ct : Nat → List ByteArray) : Prop :=
  ∀ j, j < N → Row w o (B + 500 + j) 9 1 (als.getD j (.slice none 0 0)) (ct j).length (strsL (ct j))
theorem RwT.ofLT {w : World} {o : Nat → Nat} {B : Nat} {als wls : List Value} {ls : List (List ByteArray)} (h : LT w o B als wls ls) : RwT w o B ls.length als (fun j => ls.getD j []) := fun j hj => h.all j hj
theorem RwT.step {I : Nat → Prop} {w w' : World} {o o' : Nat → Nat} {B N : Nat} {als : List Value} {ct : Nat → List ByteArray} (h : RwT w o B N als ct) (s : Step I w o w' o') (hi : ∀ j, j < N → ¬ I (B + 500 + j)) : RwT w' o' B N als ct := fun j hj => (h j hj).step s (hi j hj)
theorem strsL_set (l : List ByteArray) (t : Nat) (s : ByteArray) : (strsL l).set t (.string s) = strsL (l.set t s) := by simp [strsL, List.map_set]
/-- A store into row i. -/
theorem RwT.store {w : World} {o : Nat → Nat} {B N : Nat} {als : List Value} {ct : Nat → List ByteArray} {i g cap : Nat} (h : RwT w o B N als ct) (hi : i < N) (hv : als.getD i (.slice none 0 0) = .slice (some ⟨g, 0, none⟩) (ct i).length cap) (t : Nat) (x : ByteArray) :
    RwT (w.setCell ⟨g, t, none⟩ (.string x)) o B N als (fun j => if j = i then (ct i).set t x else ct j) ∧ Step (fun k => k = B + 500 + i) w o (w.setCell ⟨g, t, none⟩ (.string x)) o := by
  have hr := h i hi
  rw [hv] at hr
  have s1 := setStep (fun k => k = B + 500 + i) w o ⟨g, t, none⟩ (.string x) (hr.2 g rfl)
  refine ⟨fun j hj => ?_, s1⟩
  by_cases e : j = i
  · subst e
    have := hr.store t (.string x)
    rw [strsL_set] at this
    simp only [if_true]
    rw [hv, List.length_set]
    exact this
  · simp only [if_neg e]
    exact (h j hj).step s1 (by omega)
/-- Another list in row i's place. -/
theorem RwT.put {w : World} {o : Nat → Nat} {B N : Nat} {als : List Value} {ct : Nat → List ByteArray} {i : Nat} {v : Value} {l : List ByteArray} (h : ∀ j, j < N → j ≠ i → Row w o (B + 500 + j) 9 1 (als.getD j (.slice none 0 0)) (ct j).length (strsL (ct j))) (hl : als.length = N) (hi : i < N) (hr : Row w o (B + 500 + i) 9 1 v l.length (strsL l)) :
    RwT w o B N (als.set i v) (fun j => if j = i then l else ct j) := by
  intro j hj
  rw [List.getD_eq_getElem?_getD, List.getElem?_set]
  by_cases e : j = i
  · subst e
    simp only [if_true]
    rw [if_pos (by omega)]
    exact hr
  · simp only [if_neg e, if_neg (fun x : i = j => e x.symm)]
    rw [← List.getD_eq_getElem?_getD]
    exact h j hj e

/-- What stays while the lists that came out are written. -/
structure EBT (w : World) (o : Nat → Nat) (wv : World) (ov : Nat → Nat) (B ps : Nat) (c0 c1 vw : Value) (ava : Option Addr) (N cva : Nat) (als : List Value) : Prop where
  blk : Blk wv ov B ps (.cells #[c0, c1, .slice ava N cva, vw] 34 (0, 0))
  sp : Row wv ov (B + 10) 28 1 (.slice ava N cva) N als
  st : Step (fun k => SB B k ∨ (90 ≤ k ∧ k < 300)) w o wv ov
theorem EBT.ca {w : World} {o : Nat → Nat} {wv : World} {ov : Nat → Nat} {B ps : Nat} {c0 c1 vw : Value} {ava : Option Addr} {N cva : Nat} {als : List Value} (h : EBT w o wv ov B ps c0 c1 vw ava N cva als) : wv.cell? ⟨ps, 2, none⟩ = some (.slice ava N cva) := by
  have := h.blk.1
  simp [World.cell?, this]
theorem EBT.step {I : Nat → Prop} {w : World} {o : Nat → Nat} {wv wx : World} {ov ox : Nat → Nat} {B ps : Nat} {c0 c1 vw : Value} {ava : Option Addr} {N cva : Nat} {als : List Value} (h : EBT w o wv ov B ps c0 c1 vw ava N cva als) (s : Step I wv ov wx ox) (h0 : ¬ I B) (h1 : ¬ I (B + 10)) (hi : ∀ k, I k → SB B k ∨ (90 ≤ k ∧ k < 300)) : EBT w o wx ox B ps c0 c1 vw ava N cva als :=
  ⟨h.blk.step s h0, h.sp.step s h1, h.st.trans (s.mono hi)⟩
end Go.Proofs.YtmpkhbblakfglaaDoor
namespace Go.Proofs.YtmpkhbblakfglaaDoor
open Go.ChangeShapes Go.WideShapes Go.ChangeAt Go.RowKit Go.Maps
set_option linter.unusedVariables false
set_option linter.unusedSimpArgs false

theorem infoString : (Tryd.prog.info? 9).map (fun i => (i.zero, i.size, i.bytes)) = some (some (.string ⟨#[]⟩), 1, 16) := by kernel_rfl
set_option maxRecDepth 100000 in
set_option maxHeartbeats 8000000 in
theorem ends_c : EndsOk := by
  intro w o B ps hB hc h
  have h6 := step_6 w o B ps (by omega) h 0 ⟨#[]⟩ none 0 0 false
  have hc' : Hid (Cl o) := hc
  clear h hc
  go_enter Tryd.func7, Tryd.ntmps7
  go_wp2_with fail
  refine h6.mono ?_
  rintro e w1 ⟨rfl, o1, X1, s1⟩
  have X1 := X1.lab hB (clean_rl o1 w1)
  have t1 := s1.cleaned hc'.out
  have h7 := step_7 w1 (clean o1) B ps hB (clean_cl o1) X1 0 ⟨#[]⟩ none 0 0 false
  clear h6 X1 s1
  generalize clean o1 = o2 at *
  go_wp2_with fail
  refine h7.mono ?_
  rintro e w3 ⟨rfl, o3, X3, s3⟩
  have t3 := t1.trans s3
  clear h7 t1 s3
  obtain ⟨pf, px, N, ls, F, m, NL, xs, _, va, vw, als, wls, hK, _, _, _, _⟩ := X3
  obtain ⟨ava, cva, rfl⟩ := hK.ra.form
  obtain ⟨avw, cvw, rfl⟩ := hK.rw.form
  have hNe := hK.ln
  have hle := hK.lt.le
  have hla := hK.lt.la
  have hlw := hK.lt.lw
  rw [hNe] at hle hla hlw
  have HK : Hid (KP w3 o3 B ps (.pointer (some ⟨pf, 0, none⟩)) (.pointer (some ⟨px, 0, none⟩)) N ls (.slice ava N cva) (.slice avw N cvw) als wls) := hK
  have HA : Hid (als.length = N) := hla
  have HW : Hid (wls.length = N) := hlw
  have HNe : Hid (ls.length = N) := hNe
  obtain ⟨_, _, c3, c4⟩ := hK.blk.cells4
  clear hla hlw hNe hK
  go_wp2_with fail
  go_loopw [5] (fun i wv => ∃ k : Nat, k ≤ N ∧ i = .int .i64 k ∧ Step (fun _ => False) w3 o3 wv o3) (fun i _ => N - (intOf i).toNat)
  case atStart => exact ⟨0, by omega, by go_num, Step.refl _ _ _⟩
  case round =>
    clear c3 c4
    obtain ⟨k, hk, rfl, sv⟩ := hrel
    have KB := HK.out.step sv id id id (fun _ _ => ⟨id, id⟩)
    obtain ⟨_, _, c3, c4⟩ := KB.blk.cells4
    by_cases hlt : k < N
    · obtain ⟨ga, cva', hv, _, hca, hma, _, hcla, _⟩ := KB.ra.pos (by omega)
      simp only [Value.slice.injEq, true_and] at hv
      obtain ⟨rfl, rfl⟩ := hv
      obtain ⟨gw, cvw', hv, _, hcw, hmw, _, hclw, _⟩ := KB.rw.pos (by omega)
      simp only [Value.slice.injEq, true_and] at hv
      obtain ⟨rfl, rfl⟩ := hv
      have hkA : k < als.length := by rw [HA.out]; exact hlt
      have hkW : k < wls.length := by rw [HW.out]; exact hlt
      have cA := (hcla k (by omega)).trans (show als[k]? = some (als.getD k (.slice none 0 0)) by simp [hkA])
      have cW := (hclw k (by omega)).trans (show wls[k]? = some (wls.getD k (.slice none 0 0)) by simp [hkW])
      have hkl : k < ls.length := by rw [HNe.out]; exact hlt
      have hs := fun m' => texts_yes (World.drewN _ m') o3 o3 _ _ (ls.getD k []).length (ls.getD k []) _ _ rfl (by have := KB.lt.len k hkl; omega) (KB.lt.all k hkl) (KB.lt.was k hkl)
      obtain ⟨xa, hxa⟩ : ∃ xa, xa = als.getD k (.slice none 0 0) := ⟨_, rfl⟩
      obtain ⟨xw, hxw⟩ : ∃ xw, xw = wls.getD k (.slice none 0 0) := ⟨_, rfl⟩
      rw [← hxa] at cA hs
      rw [← hxw] at cW hs
      unfold maxLen at hma hmw
      clear hcla hclw hxa hxw hkA hkW hkl KB HK HA HW HNe
      go_wp2
      go_quiet ((go_at_call 26; exact Calls.quiet_of (hs _)))
      clear hs
      go_wp2
      go_roundw
      case rel => (try ((repeat apply Exists.intro); refine ⟨?_, rfl⟩)); exact ⟨k + 1, by omega, by go_num, sv.drewN _⟩
      case measure => simp [intOf]; omega
    · obtain rfl : k = N := by omega
      have kRw := RwT.ofLT KB.lt
      rw [HNe.out] at kRw
      obtain ⟨ct, kRw, ctl⟩ : ∃ ct, RwT wr o3 B k als ct ∧ Hid (∀ j, j < k → (ct j).length ≤ 16) := ⟨_, kRw, fun j hj => KB.lt.len j (by rw [HNe.out]; exact hj)⟩
      have eb : EBT w o wr o3 B ps (.pointer (some ⟨pf, 0, none⟩)) (.pointer (some ⟨px, 0, none⟩)) (.slice avw k cvw) ava k cva als := ⟨KB.blk, KB.ra, t3.trans (sv.mono (fun _ h => h.elim))⟩
      clear t3 hlt hk HK HW HNe KB sv
      generalize (.pointer (some ⟨pf, 0, none⟩) : Value) = c0 at *
      generalize (.pointer (some ⟨px, 0, none⟩) : Value) = c1 at *
      generalize (.slice avw k cvw : Value) = vw at *
      go_wp2
      clear c3 c4
      go_loopw [7] (fun i wv => ∃ q : Nat, q ≤ k ∧ i = .int .i64 q ∧ ∃ ct, RwT wv o3 B k als ct ∧ Hid (∀ j, j < k → (ct j).length ≤ 16) ∧ Hid (∀ j, j < q → ∀ t, t < (ct j).length → (ct j).getD t ⟨#[]⟩ = ov9 j) ∧ EBT w o wv o3 B ps c0 c1 vw ava k cva als) (fun i _ => k - (intOf i).toNat)
      case atStart => exact ⟨0, by omega, by go_num, ct, kRw, ctl, (fun j hj => by omega : _), eb⟩
      case round =>
        clear eb kRw ctl ct
        obtain ⟨q, hq, rfl, ct3, r3, L3, M3, eb⟩ := hrel
        have e3 := eb.ca
        by_cases hlt : q < k
        · have lS := eb.sp
          obtain ⟨ga, cva', hv, hogA, hca, hma, hgl, hcla, _⟩ := lS.pos (by omega)
          simp only [Value.slice.injEq, true_and] at hv
          obtain ⟨rfl, rfl⟩ := hv
          have hqA : q < als.length := by rw [HA.out]; exact hlt
          have hva := (r3 q hlt).form
          obtain ⟨aq, cq, hva⟩ := hva
          have HV : Hid (als.getD q (.slice none 0 0) = .slice aq (ct3 q).length cq) := hva
          unfold maxLen at hma
          obtain ⟨Q, hQ⟩ : ∃ Q, Q = (ct3 q).length := ⟨_, rfl⟩
          have hQb : Q ≤ 16 := by rw [hQ]; exact L3.out q hlt
          have HQ : Hid (Q = (ct3 q).length) := hQ
          have HCa : Hid (als[q]? = some (.slice aq Q cq)) := by rw [hQ, ← hva]; show als[q]? = _; simp [hqA]
          have hcA := (hcla q (by omega)).trans HCa.out
          clear hqA hva hQ hcla lS
          go_wp2
          go_loopw [8] (fun i wv => ∃ t : Nat, t ≤ Q ∧ i = .int .i64 t ∧ ∃ ct, RwT wv o3 B k als ct ∧ Hid (Q = (ct q).length) ∧ Hid (∀ j, j < k → (ct j).length ≤ 16) ∧ Hid (∀ j, j < q → ∀ t, t < (ct j).length → (ct j).getD t ⟨#[]⟩ = ov9 j) ∧ Hid (∀ u, u < t → (ct q).getD u ⟨#[]⟩ = ov9 q) ∧ EBT w o wv o3 B ps c0 c1 vw (some ⟨ga, 0, none⟩) k cva als) (fun i _ => Q - (intOf i).toNat)
          case atStart => exact ⟨0, by omega, by go_num, ct3, r3, HQ, L3, M3, (fun u hu => by omega : _), eb⟩
          case round =>
            clear e3 eb r3 L3 M3 HQ HV hogA hgl hcA
            obtain ⟨t, ht, rfl, ct4, r4, HQ4, L4, M4, M4q, eb⟩ := hrel
            have e3 := eb.ca
            have cA : wr.cell? ⟨ga, q, none⟩ = some (.slice aq Q cq) := (eb.sp.1.cellAt q (by omega)).trans HCa.out
            by_cases hlt2 : t < Q
            · have hr := r4 q hlt
              have hg2 : als.getD q (.slice none 0 0) = .slice aq Q cq := by rw [List.getD_eq_getElem?_getD, HCa.out]; rfl
              rw [hg2] at hr
              obtain ⟨gq, cq', hv, hogq, hcq, hmq, hglq, hclq, hfrq⟩ := hr.pos (by rw [← HQ4.out]; omega)
              simp only [Value.slice.injEq] at hv
              obtain ⟨rfl, _, rfl⟩ := hv
              have htc : t < (ct4 q).length := by rw [← HQ4.out]; exact hlt2
              have cQ : wr.cell? ⟨gq, t, none⟩ = some (.string ((ct4 q).getD t ⟨#[]⟩)) := (hclq t (by omega)).trans (strsL_get _ t htc)
              have fQ := hfrq t
              rw [← HQ4.out] at hcq
              unfold maxLen at hmq
              have hqI : (q : Int) < 256 := by omega
              have hs : (convert 70 9 (.slice (some ⟨wr.heap.size, 0, none⟩) 1 1)).run Tryd.prog (wr.alloc (.cells #[.int .u8 (q : Int)] 5)).drew = .ok (.string (one9 q)) (wr.alloc (.cells #[.int .u8 (q : Int)] 5)).drew := one_conv wr.drew q (by omega)
              have sa : Step (fun _ => False) wr o3 (wr.alloc (.cells #[.int .u8 (q : Int)] 5)).drew o3 := ((Step.refl (fun _ => False) wr o3).alloc _).drew
              have eba := eb.step sa id id (fun _ h => h.elim)
              have ra := r4.step sa (fun _ _ => id)
              have xa := eba.ca
              have xA : (wr.alloc (.cells #[.int .u8 (q : Int)] 5)).drew.cell? ⟨ga, q, none⟩ = some (.slice (some ⟨gq, 0, none⟩) Q cq) := (eba.sp.1.cellAt q (by omega)).trans HCa.out
              have cQa : (wr.alloc (.cells #[.int .u8 (q : Int)] 5)).drew.cell? ⟨gq, t, none⟩ = some (.string ((ct4 q).getD t ⟨#[]⟩)) := (World.cell?_of_block (w := wr) (a := ⟨gq, t, none⟩) (sa.block gq hglq id)).trans cQ
              have fQa : (wr.alloc (.cells #[.int .u8 (q : Int)] 5)).drew.frozen? ⟨gq, t, none⟩ = false := by rw [← fQ]; exact World.frozen?_of_block (w := wr) (a := ⟨gq, t, none⟩) (sa.block gq hglq id)
              have R := RwT.store ra hlt (by rw [← HQ4.out]; exact hg2) t (ov9 q)
              have R1 := R.1
              have eb5 := eba.step R.2 (by omega) (by omega) (fun x hx => by unfold SB; omega)
              have x5 := eb5.ca
              have x5A := (eb5.sp.1.cellAt q (by omega)).trans HCa.out
              clear R r4 ra eb eba hclq hfrq hr hg2
              have hu8 : IntKind.u8.wrap (q : Int) = q := by unfold IntKind.wrap; simp [IntKind.signed, IntKind.bits]; omega
              go_upto_region 17 with fail
              refine wp_region_noPanic ?_
              refine wp_region_held_drew (S := fun wx => wx.cell? ⟨ps, 2, none⟩ = some (.slice (some ⟨ga, 0, none⟩) k cva) ∧ wx.cell? ⟨ga, q, none⟩ = some (.slice (some ⟨gq, 0, none⟩) Q cq)) (by kernel_rfl) ⟨e3, cA⟩ (fun hHeld => ?_)
              refine wpAnyH_take (i := 0) (v := ?v1) rfl (by kernel_rfl) (by kernel_rfl) (by kernel_rfl) (fun _ _ _ h => h) (Or.inl ⟨by rfl, ?hy1⟩) (by assumption) ?rest1
              case hy1 => (intro w hSw; (try dsimp only at hSw); go_simp; all_goals (with_reducible rfl))
              simp only [Act.put, List.getElem_toArray, List.getElem_cons_zero, List.getElem_cons_succ, List.setIfInBounds_toArray, List.set_cons_zero, List.set_cons_succ]
              refine wpAnyH_take (i := 1) (v := ?v2) rfl (by kernel_rfl) (by kernel_rfl) (by kernel_rfl) (fun _ _ _ h => h) (Or.inl ⟨by rfl, ?hy2⟩) (by assumption) ?rest2
              case hy2 => (intro w hSw; (try dsimp only at hSw); go_simp; all_goals (with_reducible rfl))
              simp only [Act.put, List.getElem_toArray, List.getElem_cons_zero, List.getElem_cons_succ, List.setIfInBounds_toArray, List.set_cons_zero, List.set_cons_succ]
              refine wpAnyH_take (i := 2) (v := ?v3) rfl (by kernel_rfl) (by kernel_rfl) (by kernel_rfl) (fun _ _ _ h => h) (Or.inl ⟨by rfl, ?hy3⟩) (by assumption) ?rest3
              case hy3 => (intro w hSw; (try dsimp only at hSw); go_simp; all_goals (with_reducible rfl))
              simp only [Act.put, List.getElem_toArray, List.getElem_cons_zero, List.getElem_cons_succ, List.setIfInBounds_toArray, List.set_cons_zero, List.set_cons_succ]
              refine wpAnyH_take (i := 3) (v := ?v4) rfl (by kernel_rfl) (by kernel_rfl) (by kernel_rfl) (fun _ _ _ h => h) (Or.inl ⟨by rfl, ?hy4⟩) (by assumption) ?rest4
              case hy4 => (intro w hSw; (try dsimp only at hSw); have x3 := hSw.1; go_simp; all_goals (with_reducible rfl))
              simp only [Act.put, List.getElem_toArray, List.getElem_cons_zero, List.getElem_cons_succ, List.setIfInBounds_toArray, List.set_cons_zero, List.set_cons_succ]
              refine wpAnyH_take (i := 4) (v := ?v5) rfl (by kernel_rfl) (by kernel_rfl) (by kernel_rfl) (fun _ _ _ h => h) (Or.inl ⟨by rfl, ?hy5⟩) (by assumption) ?rest5
              case hy5 => (intro w hSw; (try dsimp only at hSw); go_simp; all_goals (with_reducible rfl))
              simp only [Act.put, List.getElem_toArray, List.getElem_cons_zero, List.getElem_cons_succ, List.setIfInBounds_toArray, List.set_cons_zero, List.set_cons_succ]
              refine wpAnyH_take (i := 5) (v := ?v6) rfl (by kernel_rfl) (by kernel_rfl) (by kernel_rfl) (fun _ _ _ h => h) (Or.inl ⟨by rfl, ?hy6⟩) (by assumption) ?rest6
              case hy6 => (intro w hSw; (try dsimp only at hSw); go_simp; all_goals (with_reducible rfl))
              simp only [Act.put, List.getElem_toArray, List.getElem_cons_zero, List.getElem_cons_succ, List.setIfInBounds_toArray, List.set_cons_zero, List.set_cons_succ]
              refine wpAnyH_take (i := 6) (v := ?v7) rfl (by kernel_rfl) (by kernel_rfl) (by kernel_rfl) (fun _ _ _ h => h) (Or.inl ⟨by rfl, ?hy7⟩) (by assumption) ?rest7
              case hy7 => (intro w hSw; (try dsimp only at hSw); have xA := hSw.2; go_simp; all_goals (with_reducible rfl))
              simp only [Act.put, List.getElem_toArray, List.getElem_cons_zero, List.getElem_cons_succ, List.setIfInBounds_toArray, List.set_cons_zero, List.set_cons_succ]
              refine wpAnyH_take (i := 7) (v := ?v8) rfl (by kernel_rfl) (by kernel_rfl) (by kernel_rfl) (fun _ _ _ h => h) (Or.inl ⟨by rfl, ?hy8⟩) (by assumption) ?rest8
              case hy8 => (intro w hSw; (try dsimp only at hSw); go_simp; all_goals (with_reducible rfl))
              simp only [Act.put, List.getElem_toArray, List.getElem_cons_zero, List.getElem_cons_succ, List.setIfInBounds_toArray, List.set_cons_zero, List.set_cons_succ]
              refine wpAnyH_take (i := 8) (v := ?v9) rfl (by kernel_rfl) (by kernel_rfl) (by kernel_rfl) (fun _ _ _ h => h) (Or.inl ⟨by rfl, ?hy9⟩) (by assumption) ?rest9
              case hy9 => (intro w hSw; (try dsimp only at hSw); go_simp; all_goals (with_reducible rfl))
              simp only [Act.put, List.getElem_toArray, List.getElem_cons_zero, List.getElem_cons_succ, List.setIfInBounds_toArray, List.set_cons_zero, List.set_cons_succ]
              refine wpAnyH_take (i := 9) (v := ?v10) rfl (by kernel_rfl) (by kernel_rfl) (by kernel_rfl) (fun _ _ _ h => h) (Or.inl ⟨by rfl, ?hy10⟩) (by assumption) ?rest10
              case hy10 => (intro w hSw; (try dsimp only at hSw); go_simp; all_goals (with_reducible rfl))
              simp only [Act.put, List.getElem_toArray, List.getElem_cons_zero, List.getElem_cons_succ, List.setIfInBounds_toArray, List.set_cons_zero, List.set_cons_succ]
              refine wpAnyH_ready (rs := [10]) (by kernel_rfl) (by simp) ?_
              refine AllReadyH.cons rfl (fun K hK => ?_) AllReadyH.nil
              go_simp
              refine hK.out _ _ ⟨xa, xA⟩ (fun hHeld => ?_)
              clear hK K
              try simp only [Act.put, List.getElem_toArray, List.getElem_cons_zero, List.getElem_cons_succ, List.setIfInBounds_toArray, List.set_cons_zero, List.set_cons_succ]
              refine wpAnyH_ready (rs := [11]) (by kernel_rfl) (by simp) ?_
              refine AllReadyH.cons rfl (fun K hK => ?_) AllReadyH.nil
              go_simp
              refine hK.out _ _ ⟨xa, xA⟩ (fun hHeld => ?_)
              clear hK K
              clear hs sa e3 cA cQ fQ
              generalize (wr.alloc (.cells #[.int .u8 (q : Int)] 5)).drew = wy at *
              try simp only [Act.put, List.getElem_toArray, List.getElem_cons_zero, List.getElem_cons_succ, List.setIfInBounds_toArray, List.set_cons_zero, List.set_cons_succ]
              refine wpAnyH_take (i := 12) (v := ?v11) rfl (by kernel_rfl) (by kernel_rfl) (by kernel_rfl) (fun _ _ _ h => h) (Or.inl ⟨by rfl, ?hy11⟩) (by assumption) ?rest11
              case hy11 => (intro w hSw; (try dsimp only at hSw); have h1s : (one9 q).size = 1 := rfl; go_simp; all_goals (with_reducible rfl))
              simp only [Act.put, List.getElem_toArray, List.getElem_cons_zero, List.getElem_cons_succ, List.setIfInBounds_toArray, List.set_cons_zero, List.set_cons_succ]
              refine wpAnyH_take (i := 13) (v := ?v12) rfl (by kernel_rfl) (by kernel_rfl) (by kernel_rfl) (fun _ _ _ h => h) (Or.inl ⟨by rfl, ?hy12⟩) (by assumption) ?rest12
              case hy12 => (intro w hSw; (try dsimp only at hSw); go_simp; all_goals (with_reducible rfl))
              simp only [Act.put, List.getElem_toArray, List.getElem_cons_zero, List.getElem_cons_succ, List.setIfInBounds_toArray, List.set_cons_zero, List.set_cons_succ]
              refine wpAnyH_ready (rs := [14]) (by kernel_rfl) (by simp) ?_
              refine AllReadyH.cons rfl (fun K hK => ?_) AllReadyH.nil
              go_simp
              refine hK.out _ _ ⟨x5, x5A⟩ (fun hHeld => ?_)
              clear hK K
              try simp only [Act.put, List.getElem_toArray, List.getElem_cons_zero, List.getElem_cons_succ, List.setIfInBounds_toArray, List.set_cons_zero, List.set_cons_succ]
              refine wpAnyH_done (by kernel_rfl) ?_ _
              refine NoPanic.normal ?_
              have H1 : Hid (Q = ((fun j => if j = q then (ct4 q).set t (ov9 q) else ct4 j) q).length) := by show Q = _; simp only [if_true, List.length_set]; exact HQ4.out
              have H2 : Hid (∀ j, j < k → ((fun j => if j = q then (ct4 q).set t (ov9 q) else ct4 j) j).length ≤ 16) := fun j hj => by
                by_cases e : j = q
                · simp only [if_pos e, List.length_set]; exact L4.out q hlt
                · simp only [if_neg e]; exact L4.out j hj
              have H3 : Hid (∀ j, j < q → ∀ u, u < ((fun j => if j = q then (ct4 q).set t (ov9 q) else ct4 j) j).length → ((fun j => if j = q then (ct4 q).set t (ov9 q) else ct4 j) j).getD u ⟨#[]⟩ = ov9 j) := fun j hj u => by
                have e : ¬ j = q := by omega
                simp only [if_neg e]; exact M4.out j hj u
              have H4 : Hid (∀ u, u < t + 1 → ((fun j => if j = q then (ct4 q).set t (ov9 q) else ct4 j) q).getD u ⟨#[]⟩ = ov9 q) := fun u hu => by
                simp only [if_true]
                rw [List.getD_eq_getElem?_getD, List.getElem?_set]
                by_cases e : t = u
                · subst e; rw [if_pos rfl, if_pos htc]; rfl
                · rw [if_neg e, ← List.getD_eq_getElem?_getD]; exact M4q.out u (by omega)
              clear L4 M4 M4q xa xA cQa fQa x5 x5A hHeld
              go_wp2
              go_roundw
              case rel => (try ((repeat apply Exists.intro); refine ⟨?_, rfl⟩)); exact ⟨t + 1, by omega, by go_num, _, R1, H1, H2, H3, H4, eb5⟩
              case measure => simp [intOf]; omega
            · obtain rfl : t = Q := by omega
              have M5 : Hid (∀ j, j < q + 1 → ∀ u, u < (ct4 j).length → (ct4 j).getD u ⟨#[]⟩ = ov9 j) := fun j hj u hu => by
                by_cases e : j = q
                · subst e; exact M4q.out u (by rw [HQ4.out]; exact hu)
                · exact M4.out j (by omega) u hu
              clear M4 M4q HQ4
              go_wp2
              go_roundw
              case rel => (try ((repeat apply Exists.intro); refine ⟨?_, rfl⟩)); exact ⟨q + 1, by omega, by go_num, ct4, r4, L4, M5, eb⟩
              case measure => simp [intOf]; omega
        · obtain rfl : q = k := by omega
          have H5 : Hid (als.length = q) := HA
          have L5 : Hid (∀ j, j < q → (ct3 j).length ≤ 16 + 0) := L3
          obtain ⟨ii, hii, hzi0, hzi1, hzi2⟩ := info_parts infoString
          clear HA L3 hq hlt
          go_wp2
          clear e3
          go_loopw [9] (fun i wv => ∃ r : Nat, r ≤ 12 ∧ i = .int .i64 r ∧ ∃ ov als' ct, RwT wv ov B q als' ct ∧ Hid (als'.length = q) ∧ Hid (∀ j, j < q → (ct j).length ≤ 16 + r) ∧ Hid (∀ j, j < q → ∀ t, t < (ct j).length → (ct j).getD t ⟨#[]⟩ = ov9 j) ∧ EBT w o wv ov B ps c0 c1 vw ava q cva als') (fun i _ => 12 - (intOf i).toNat)
          case atStart => exact ⟨0, by omega, by go_num, o3, als, ct3, r3, H5, L5, M3, eb⟩
          case round =>
            clear r3 H5 L5 M3 eb
            obtain ⟨r, hr, rfl, o5, als5, ct5, r5, H5, L5, M5, eb⟩ := hrel
            by_cases hlt : r < 12
            · go_wp2
              go_loopw [10] (fun i wv => ∃ p' : Nat, p' ≤ q ∧ i = .int .i64 p' ∧ ∃ ov als' ct, RwT wv ov B q als' ct ∧ Hid (als'.length = q) ∧ Hid (∀ j, j < q → (ct j).length ≤ 16 + r + (if j < p' then 1 else 0)) ∧ Hid (∀ j, j < q → ∀ t, t < (ct j).length → (ct j).getD t ⟨#[]⟩ = ov9 j) ∧ EBT w o wv ov B ps c0 c1 vw ava q cva als') (fun i _ => q - (intOf i).toNat)
              case atStart => exact ⟨0, by omega, by go_num, o5, als5, ct5, r5, H5, (fun j hj => by simpa using L5.out j hj : _), M5, eb⟩
              case round =>
                clear r5 H5 L5 M5 eb
                obtain ⟨p', hp, rfl, o6, als6, ct6, r6, H6, L6, M6, eb⟩ := hrel
                have e3 := eb.ca
                by_cases hlt2 : p' < q
                · obtain ⟨ga, cva', hv, hogA, hca, hma, hgl, hcla, hfra⟩ := eb.sp.pos (by omega)
                  simp only [Value.slice.injEq, true_and] at hv
                  obtain ⟨rfl, rfl⟩ := hv
                  have hpA : p' < als6.length := by rw [H6.out]; exact hlt2
                  have rp := r6 p' hlt2
                  have hva := rp.form
                  obtain ⟨aq, cq, hva⟩ := hva
                  rw [hva] at rp
                  obtain ⟨Q, hQ⟩ : ∃ Q, Q = (ct6 p').length := ⟨_, rfl⟩
                  have hQb : Q ≤ 30 := by have h1 := L6.out p' hlt2; rw [← hQ] at h1; split at h1 <;> omega
                  have HQ : Hid (Q = (ct6 p').length) := hQ
                  have HCa : Hid (als6[p']? = some (.slice aq Q cq)) := by rw [hQ, ← hva]; show als6[p']? = _; simp [hpA]
                  have cA := (hcla p' (by omega)).trans HCa.out
                  rw [← hQ] at rp
                  have fA := hfra p'
                  unfold maxLen at hma
                  have b1 : Q + 1 ≤ maxLen := by unfold maxLen; omega
                  clear hcla hfra hQ hpA hva
                  have hs : (convert 70 9 (.slice (some ⟨wr.heap.size, 0, none⟩) 1 1)).run Tryd.prog (wr.alloc (.cells #[.int .u8 (p' : Int)] 5)).drew = .ok (.string (one9 p')) (wr.alloc (.cells #[.int .u8 (p' : Int)] 5)).drew := one_conv wr.drew p' (by omega)
                  have hu8 : IntKind.u8.wrap (p' : Int) = p' := by unfold IntKind.wrap; simp [IntKind.signed, IntKind.bits]; omega
                  have sa : Step (fun _ => False) wr o6 (wr.alloc (.cells #[.int .u8 (p' : Int)] 5)).drew o6 := ((Step.refl (fun _ => False) wr o6).alloc _).drew
                  have eba := eb.step sa id id (fun _ h => h.elim)
                  have ra := r6.step sa (fun _ _ => id)
                  have rpa := rp.step sa id
                  have xa := eba.ca
                  have xA := (eba.sp.1.cellAt p' (by omega)).trans HCa.out
                  have b2 : (Q + 1) * 16 ≤ 140737488355328 := by omega
                  have hone : ∀ u ∈ [Value.string (⟨#[111, 118, 101, 114]⟩ ++ one9 p')], u.oneCell' = true := by intro u hu; simp at hu; subst hu; rfl
                  have HEb : Hid (EBT w o (wr.alloc (.cells #[.int .u8 (p' : Int)] 5)).drew o6 B ps c0 c1 vw (some ⟨ga, 0, none⟩) q cva als6) := eba
                  have HRa : Hid (RwT (wr.alloc (.cells #[.int .u8 (p' : Int)] 5)).drew o6 B q als6 ct6) := ra
                  clear eb eba r6 ra rp sa
                  go_upto_region 24 with fail
                  refine wp_region_noPanic ?_
                  refine wp_region_held_drew (S := fun wx => wx.cell? ⟨ps, 2, none⟩ = some (.slice (some ⟨ga, 0, none⟩) q cva)) (by kernel_rfl) e3 (fun hHeld => ?_)
                  refine wpAnyH_take (i := 0) (v := ?v201) rfl (by kernel_rfl) (by kernel_rfl) (by kernel_rfl) (fun _ _ _ h => h) (Or.inl ⟨by rfl, ?hy201⟩) (by assumption) ?rest201
                  case hy201 => (intro w hSw; (try dsimp only at hSw); go_simp; all_goals (with_reducible rfl))
                  simp only [Act.put, List.getElem_toArray, List.getElem_cons_zero, List.getElem_cons_succ, List.setIfInBounds_toArray, List.set_cons_zero, List.set_cons_succ]
                  refine wpAnyH_take (i := 1) (v := ?v202) rfl (by kernel_rfl) (by kernel_rfl) (by kernel_rfl) (fun _ _ _ h => h) (Or.inl ⟨by rfl, ?hy202⟩) (by assumption) ?rest202
                  case hy202 => (intro w hSw; (try dsimp only at hSw); go_simp; all_goals (with_reducible rfl))
                  simp only [Act.put, List.getElem_toArray, List.getElem_cons_zero, List.getElem_cons_succ, List.setIfInBounds_toArray, List.set_cons_zero, List.set_cons_succ]
                  refine wpAnyH_take (i := 2) (v := ?v203) rfl (by kernel_rfl) (by kernel_rfl) (by kernel_rfl) (fun _ _ _ h => h) (Or.inl ⟨by rfl, ?hy203⟩) (by assumption) ?rest203
                  case hy203 => (intro w hSw; (try dsimp only at hSw); go_simp; all_goals (with_reducible rfl))
                  simp only [Act.put, List.getElem_toArray, List.getElem_cons_zero, List.getElem_cons_succ, List.setIfInBounds_toArray, List.set_cons_zero, List.set_cons_succ]
                  refine wpAnyH_take (i := 3) (v := ?v204) rfl (by kernel_rfl) (by kernel_rfl) (by kernel_rfl) (fun _ _ _ h => h) (Or.inl ⟨by rfl, ?hy204⟩) (by assumption) ?rest204
                  case hy204 => (intro w hSw; (try dsimp only at hSw); have x3 := hSw; go_simp; all_goals (with_reducible rfl))
                  simp only [Act.put, List.getElem_toArray, List.getElem_cons_zero, List.getElem_cons_succ, List.setIfInBounds_toArray, List.set_cons_zero, List.set_cons_succ]
                  refine wpAnyH_take (i := 4) (v := ?v205) rfl (by kernel_rfl) (by kernel_rfl) (by kernel_rfl) (fun _ _ _ h => h) (Or.inl ⟨by rfl, ?hy205⟩) (by assumption) ?rest205
                  case hy205 => (intro w hSw; (try dsimp only at hSw); go_simp; all_goals (with_reducible rfl))
                  simp only [Act.put, List.getElem_toArray, List.getElem_cons_zero, List.getElem_cons_succ, List.setIfInBounds_toArray, List.set_cons_zero, List.set_cons_succ]
                  refine wpAnyH_take (i := 5) (v := ?v206) rfl (by kernel_rfl) (by kernel_rfl) (by kernel_rfl) (fun _ _ _ h => h) (Or.inl ⟨by rfl, ?hy206⟩) (by assumption) ?rest206
                  case hy206 => (intro w hSw; (try dsimp only at hSw); go_simp; all_goals (with_reducible rfl))
                  simp only [Act.put, List.getElem_toArray, List.getElem_cons_zero, List.getElem_cons_succ, List.setIfInBounds_toArray, List.set_cons_zero, List.set_cons_succ]
                  refine wpAnyH_take (i := 6) (v := ?v207) rfl (by kernel_rfl) (by kernel_rfl) (by kernel_rfl) (fun _ _ _ h => h) (Or.inl ⟨by rfl, ?hy207⟩) (by assumption) ?rest207
                  case hy207 => (intro w hSw; (try dsimp only at hSw); go_simp; all_goals (with_reducible rfl))
                  simp only [Act.put, List.getElem_toArray, List.getElem_cons_zero, List.getElem_cons_succ, List.setIfInBounds_toArray, List.set_cons_zero, List.set_cons_succ]
                  refine wpAnyH_take (i := 7) (v := ?v208) rfl (by kernel_rfl) (by kernel_rfl) (by kernel_rfl) (fun _ _ _ h => h) (Or.inl ⟨by rfl, ?hy208⟩) (by assumption) ?rest208
                  case hy208 => (intro w hSw; (try dsimp only at hSw); go_simp; all_goals (with_reducible rfl))
                  simp only [Act.put, List.getElem_toArray, List.getElem_cons_zero, List.getElem_cons_succ, List.setIfInBounds_toArray, List.set_cons_zero, List.set_cons_succ]
                  refine wpAnyH_take (i := 8) (v := ?v209) rfl (by kernel_rfl) (by kernel_rfl) (by kernel_rfl) (fun _ _ _ h => h) (Or.inl ⟨by rfl, ?hy209⟩) (by assumption) ?rest209
                  case hy209 => (intro w hSw; (try dsimp only at hSw); have x3 := hSw; go_simp; all_goals (with_reducible rfl))
                  simp only [Act.put, List.getElem_toArray, List.getElem_cons_zero, List.getElem_cons_succ, List.setIfInBounds_toArray, List.set_cons_zero, List.set_cons_succ]
                  refine wpAnyH_take (i := 9) (v := ?v210) rfl (by kernel_rfl) (by kernel_rfl) (by kernel_rfl) (fun _ _ _ h => h) (Or.inl ⟨by rfl, ?hy210⟩) (by assumption) ?rest210
                  case hy210 => (intro w hSw; (try dsimp only at hSw); go_simp; all_goals (with_reducible rfl))
                  simp only [Act.put, List.getElem_toArray, List.getElem_cons_zero, List.getElem_cons_succ, List.setIfInBounds_toArray, List.set_cons_zero, List.set_cons_succ]
                  refine wpAnyH_take (i := 10) (v := ?v211) rfl (by kernel_rfl) (by kernel_rfl) (by kernel_rfl) (fun _ _ _ h => h) (Or.inl ⟨by rfl, ?hy211⟩) (by assumption) ?rest211
                  case hy211 => (intro w hSw; (try dsimp only at hSw); go_simp; all_goals (with_reducible rfl))
                  simp only [Act.put, List.getElem_toArray, List.getElem_cons_zero, List.getElem_cons_succ, List.setIfInBounds_toArray, List.set_cons_zero, List.set_cons_succ]
                  refine wpAnyH_take (i := 12) (v := ?v212) rfl (by kernel_rfl) (by kernel_rfl) (by kernel_rfl) (fun _ _ _ h => h) (Or.inl ⟨by rfl, ?hy212⟩) (by assumption) ?rest212
                  case hy212 => (intro w hSw; (try dsimp only at hSw); go_simp; all_goals (with_reducible rfl))
                  simp only [Act.put, List.getElem_toArray, List.getElem_cons_zero, List.getElem_cons_succ, List.setIfInBounds_toArray, List.set_cons_zero, List.set_cons_succ]
                  refine wpAnyH_take (i := 13) (v := ?v213) rfl (by kernel_rfl) (by kernel_rfl) (by kernel_rfl) (fun _ _ _ h => h) (Or.inl ⟨by rfl, ?hy213⟩) (by assumption) ?rest213
                  case hy213 => (intro w hSw; (try dsimp only at hSw); go_simp; all_goals (with_reducible rfl))
                  simp only [Act.put, List.getElem_toArray, List.getElem_cons_zero, List.getElem_cons_succ, List.setIfInBounds_toArray, List.set_cons_zero, List.set_cons_succ]
                  refine wpAnyH_ready (rs := [11, 14]) (by kernel_rfl) (by simp) ?_
                  refine AllReadyH.cons rfl (fun K hK => ?_) (AllReadyH.cons rfl (fun K hK => ?_) AllReadyH.nil)
                  · have y11 := cA
                    go_simp
                    refine hK.out _ _ hHeld (fun hHeld => ?_)
                    clear hK K
                    try simp only [Act.put, List.getElem_toArray, List.getElem_cons_zero, List.getElem_cons_succ, List.setIfInBounds_toArray, List.set_cons_zero, List.set_cons_succ]
                    refine wpAnyH_ready (rs := [14]) (by kernel_rfl) (by simp) ?_
                    refine AllReadyH.cons rfl (fun K hK => ?_) AllReadyH.nil
                    go_simp
                    refine hK.out _ _ xa (fun hHeld => ?_)
                    clear hK K
                    try simp only [Act.put, List.getElem_toArray, List.getElem_cons_zero, List.getElem_cons_succ, List.setIfInBounds_toArray, List.set_cons_zero, List.set_cons_succ]
                    clear e3 cA fA
                    generalize (wr.alloc (.cells #[.int .u8 (p' : Int)] 5)).drew = wy at *
                    refine wpAnyH_ready (rs := [15]) (by kernel_rfl) (by simp) ?_
                    refine AllReadyH.cons rfl (fun K hK => ?_) AllReadyH.nil
                    go_simp
                    refine hK.out _ _ xa (fun hHeld => ?_)
                    clear hK K
                    try simp only [Act.put, List.getElem_toArray, List.getElem_cons_zero, List.getElem_cons_succ, List.setIfInBounds_toArray, List.set_cons_zero, List.set_cons_succ]
                    refine wpAnyH_take (i := 16) (v := ?v214) rfl (by kernel_rfl) (by kernel_rfl) (by kernel_rfl) (fun _ _ _ h => h) (Or.inl ⟨by rfl, ?hy214⟩) (by assumption) ?rest214
                    case hy214 => (intro w hSw; (try dsimp only at hSw); have h1s : (one9 p').size = 1 := rfl; go_simp; all_goals (with_reducible rfl))
                    simp only [Act.put, List.getElem_toArray, List.getElem_cons_zero, List.getElem_cons_succ, List.setIfInBounds_toArray, List.set_cons_zero, List.set_cons_succ]
                    refine wpAnyH_ready (rs := [17]) (by kernel_rfl) (by simp) ?_
                    refine AllReadyH.cons rfl (fun K hK => ?_) AllReadyH.nil
                    have ebb := HEb.out.step (allocStep (fun _ => False) wy o6 (.cells #[(.string (⟨#[111, 118, 101, 114]⟩ ++ one9 p'))] 9)) id id (fun _ h => h.elim)
                    have xb := ebb.ca
                    have xB := (ebb.sp.1.cellAt p' (by omega)).trans HCa.out
                    go_simp
                    refine hK.out _ _ xb (fun hHeld => ?_)
                    clear hK K
                    try simp only [Act.put, List.getElem_toArray, List.getElem_cons_zero, List.getElem_cons_succ, List.setIfInBounds_toArray, List.set_cons_zero, List.set_cons_succ]
                    refine wpAnyH_ready (rs := [18]) (by kernel_rfl) (by simp) ?_
                    refine AllReadyH.cons rfl (fun K hK => ?_) AllReadyH.nil
                    refine step_append_lab rfl (.tmp 110) (.tmp 116) 28 rfl 9 ii (.string ⟨#[]⟩) 1 16 Tryd.underlying28 hii hzi0 hzi1 hzi2 rfl (by decide) o6 (B + 500 + p') _ Q (strsL (ct6 p')) (by simp [Act.eval]) (rpa.step (allocStep (fun _ => False) wy o6 _) (by simp)) ⟨wy.heap.size, 0, none⟩ 1 1 [(.string (⟨#[111, 118, 101, 114]⟩ ++ one9 p'))] (by simp [Act.eval]) rfl (new_one_at (by simp) _ _) hone (by decide) b1 b2 ?_
                    intro g7 c7 w7 o7 r7 s7
                    have u7 := (allocStep (fun x => x = B + 500 + p') wy o6 _).trans s7
                    have eb7 := HEb.out.step u7 (by omega) (by omega) (fun x hx => by unfold SB; omega)
                    have x7 := eb7.ca
                    have x7A := (eb7.sp.1.cellAt p' (by omega)).trans HCa.out
                    have f7A : w7.frozen? ⟨ga, p', none⟩ = false := eb7.sp.1.frozenAt p'
                    have s8 := setStep (fun x => x = B + 10) w7 o7 ⟨ga, p', none⟩ (.slice (some ⟨g7, 0, none⟩) (Q + 1) c7) (eb7.sp.2 ga rfl)
                    have eb8 : EBT w o (w7.setCell ⟨ga, p', none⟩ (.slice (some ⟨g7, 0, none⟩) (Q + 1) c7)) o7 B ps c0 c1 vw (some ⟨ga, 0, none⟩) q cva (als6.set p' (.slice (some ⟨g7, 0, none⟩) (Q + 1) c7)) := ⟨eb7.blk.step s8 (by omega), eb7.sp.store p' (.slice (some ⟨g7, 0, none⟩) (Q + 1) c7), eb7.st.trans (s8.mono fun k hk => by unfold SB; omega)⟩
                    have x8 := eb8.ca
                    rw [← strsL_app] at r7
                    have e7 : Hid (Q + 1 = (ct6 p' ++ [ov9 p']).length) := by show Q + 1 = _; rw [HQ.out]; simp
                    have r7' := r7.step s8 (show ¬ (B + 500 + p' = B + 10) by omega)
                    have r8 := RwT.put (i := p') (v := (.slice (some ⟨g7, 0, none⟩) (Q + 1) c7)) (l := ct6 p' ++ [ov9 p']) (fun j hj hne => ((HRa.out j hj).step u7 (by omega)).step s8 (by omega)) H6.out hlt2 (by rw [← e7.out]; exact r7')
                    clear s8 eb7 u7 s7 r7 r7'
                    refine hK.out _ _ x7 (fun hHeld => ?_)
                    clear hK K
                    try simp only [Act.put, List.getElem_toArray, List.getElem_cons_zero, List.getElem_cons_succ, List.setIfInBounds_toArray, List.set_cons_zero, List.set_cons_succ]
                    refine wpAnyH_take (i := 19) (v := ?v215) rfl (by kernel_rfl) (by kernel_rfl) (by kernel_rfl) (fun _ _ _ h => h) (Or.inl ⟨by rfl, ?hy215⟩) (by assumption) ?rest215
                    case hy215 => (intro w hSw; (try dsimp only at hSw); go_simp; all_goals (with_reducible rfl))
                    simp only [Act.put, List.getElem_toArray, List.getElem_cons_zero, List.getElem_cons_succ, List.setIfInBounds_toArray, List.set_cons_zero, List.set_cons_succ]
                    refine wpAnyH_ready (rs := [20]) (by kernel_rfl) (by simp) ?_
                    refine AllReadyH.cons rfl (fun K hK => ?_) AllReadyH.nil
                    go_simp
                    refine hK.out _ _ x8 (fun hHeld => ?_)
                    clear hK K
                    try simp only [Act.put, List.getElem_toArray, List.getElem_cons_zero, List.getElem_cons_succ, List.setIfInBounds_toArray, List.set_cons_zero, List.set_cons_succ]
                    refine wpAnyH_done (by kernel_rfl) ?_ _
                    refine NoPanic.normal ?_
                    have H8 : Hid ((als6.set p' (.slice (some ⟨g7, 0, none⟩) (Q + 1) c7)).length = q) := by show _ = _; rw [List.length_set]; exact H6.out
                    have L8 : Hid (∀ j, j < q → ((fun j => if j = p' then ct6 p' ++ [ov9 p'] else ct6 j) j).length ≤ 16 + r + (if j < p' + 1 then 1 else 0)) := fun j hj => by
                      by_cases e : j = p'
                      · subst e
                        have h1 := L6.out j hj
                        simp only [if_true]
                        rw [← e7.out, if_pos (by omega), HQ.out]
                        rw [if_neg (by omega)] at h1
                        omega
                      · have h1 := L6.out j hj
                        simp only [if_neg e]
                        split at h1 <;> split <;> omega
                    have M8 : Hid (∀ j, j < q → ∀ t, t < ((fun j => if j = p' then ct6 p' ++ [ov9 p'] else ct6 j) j).length → ((fun j => if j = p' then ct6 p' ++ [ov9 p'] else ct6 j) j).getD t ⟨#[]⟩ = ov9 j) := fun j hj t ht => by
                      by_cases e : j = p'
                      · subst e
                        simp only [if_true] at ht ⊢
                        rw [List.getD_eq_getElem?_getD, List.getElem?_append]
                        by_cases e2 : t < (ct6 j).length
                        · rw [if_pos e2, ← List.getD_eq_getElem?_getD]; exact M6.out j hj t e2
                        · rw [if_neg e2, show t - (ct6 j).length = 0 by simp at ht; omega]; rfl
                      · simp only [if_neg e] at ht ⊢
                        exact M6.out j hj t ht
                    clear HQ H6 L6 M6 HEb HRa hHeld x7 x7A f7A x8 e7
                    go_wp2
                    go_roundw
                    case rel => (try ((repeat apply Exists.intro); refine ⟨?_, rfl⟩)); exact ⟨p' + 1, by omega, by go_num, o7, _, _, r8, H8, L8, M8, eb8⟩
                    case measure => simp [intOf]; omega
                  · go_simp
                    refine hK.out _ _ xa (fun hHeld => ?_)
                    clear hK K
                    try simp only [Act.put, List.getElem_toArray, List.getElem_cons_zero, List.getElem_cons_succ, List.setIfInBounds_toArray, List.set_cons_zero, List.set_cons_succ]
                    clear e3 cA fA
                    generalize (wr.alloc (.cells #[.int .u8 (p' : Int)] 5)).drew = wy at *
                    refine wpAnyH_ready (rs := [11, 15]) (by kernel_rfl) (by simp) ?_
                    refine AllReadyH.cons rfl (fun K hK => ?_) (AllReadyH.cons rfl (fun K hK => ?_) AllReadyH.nil)
                    · have y11 := xA
                      go_simp
                      refine hK.out _ _ hHeld (fun hHeld => ?_)
                      clear hK K
                      try simp only [Act.put, List.getElem_toArray, List.getElem_cons_zero, List.getElem_cons_succ, List.setIfInBounds_toArray, List.set_cons_zero, List.set_cons_succ]
                      refine wpAnyH_ready (rs := [15]) (by kernel_rfl) (by simp) ?_
                      refine AllReadyH.cons rfl (fun K hK => ?_) AllReadyH.nil
                      go_simp
                      refine hK.out _ _ xa (fun hHeld => ?_)
                      clear hK K
                      try simp only [Act.put, List.getElem_toArray, List.getElem_cons_zero, List.getElem_cons_succ, List.setIfInBounds_toArray, List.set_cons_zero, List.set_cons_succ]
                      refine wpAnyH_take (i := 16) (v := ?v216) rfl (by kernel_rfl) (by kernel_rfl) (by kernel_rfl) (fun _ _ _ h => h) (Or.inl ⟨by rfl, ?hy216⟩) (by assumption) ?rest216
                      case hy216 => (intro w hSw; (try dsimp only at hSw); have h1s : (one9 p').size = 1 := rfl; go_simp; all_goals (with_reducible rfl))
                      simp only [Act.put, List.getElem_toArray, List.getElem_cons_zero, List.getElem_cons_succ, List.setIfInBounds_toArray, List.set_cons_zero, List.set_cons_succ]
                      refine wpAnyH_ready (rs := [17]) (by kernel_rfl) (by simp) ?_
                      refine AllReadyH.cons rfl (fun K hK => ?_) AllReadyH.nil
                      have ebb := HEb.out.step (allocStep (fun _ => False) wy o6 (.cells #[(.string (⟨#[111, 118, 101, 114]⟩ ++ one9 p'))] 9)) id id (fun _ h => h.elim)
                      have xb := ebb.ca
                      have xB := (ebb.sp.1.cellAt p' (by omega)).trans HCa.out
                      go_simp
                      refine hK.out _ _ xb (fun hHeld => ?_)
                      clear hK K
                      try simp only [Act.put, List.getElem_toArray, List.getElem_cons_zero, List.getElem_cons_succ, List.setIfInBounds_toArray, List.set_cons_zero, List.set_cons_succ]
                      refine wpAnyH_ready (rs := [18]) (by kernel_rfl) (by simp) ?_
                      refine AllReadyH.cons rfl (fun K hK => ?_) AllReadyH.nil
                      refine step_append_lab rfl (.tmp 110) (.tmp 116) 28 rfl 9 ii (.string ⟨#[]⟩) 1 16 Tryd.underlying28 hii hzi0 hzi1 hzi2 rfl (by decide) o6 (B + 500 + p') _ Q (strsL (ct6 p')) (by simp [Act.eval]) (rpa.step (allocStep (fun _ => False) wy o6 _) (by simp)) ⟨wy.heap.size, 0, none⟩ 1 1 [(.string (⟨#[111, 118, 101, 114]⟩ ++ one9 p'))] (by simp [Act.eval]) rfl (new_one_at (by simp) _ _) hone (by decide) b1 b2 ?_
                      intro g7 c7 w7 o7 r7 s7
                      have u7 := (allocStep (fun x => x = B + 500 + p') wy o6 _).trans s7
                      have eb7 := HEb.out.step u7 (by omega) (by omega) (fun x hx => by unfold SB; omega)
                      have x7 := eb7.ca
                      have x7A := (eb7.sp.1.cellAt p' (by omega)).trans HCa.out
                      have f7A : w7.frozen? ⟨ga, p', none⟩ = false := eb7.sp.1.frozenAt p'
                      have s8 := setStep (fun x => x = B + 10) w7 o7 ⟨ga, p', none⟩ (.slice (some ⟨g7, 0, none⟩) (Q + 1) c7) (eb7.sp.2 ga rfl)
                      have eb8 : EBT w o (w7.setCell ⟨ga, p', none⟩ (.slice (some ⟨g7, 0, none⟩) (Q + 1) c7)) o7 B ps c0 c1 vw (some ⟨ga, 0, none⟩) q cva (als6.set p' (.slice (some ⟨g7, 0, none⟩) (Q + 1) c7)) := ⟨eb7.blk.step s8 (by omega), eb7.sp.store p' (.slice (some ⟨g7, 0, none⟩) (Q + 1) c7), eb7.st.trans (s8.mono fun k hk => by unfold SB; omega)⟩
                      have x8 := eb8.ca
                      rw [← strsL_app] at r7
                      have e7 : Hid (Q + 1 = (ct6 p' ++ [ov9 p']).length) := by show Q + 1 = _; rw [HQ.out]; simp
                      have r7' := r7.step s8 (show ¬ (B + 500 + p' = B + 10) by omega)
                      have r8 := RwT.put (i := p') (v := (.slice (some ⟨g7, 0, none⟩) (Q + 1) c7)) (l := ct6 p' ++ [ov9 p']) (fun j hj hne => ((HRa.out j hj).step u7 (by omega)).step s8 (by omega)) H6.out hlt2 (by rw [← e7.out]; exact r7')
                      clear s8 eb7 u7 s7 r7 r7'
                      refine hK.out _ _ x7 (fun hHeld => ?_)
                      clear hK K
                      try simp only [Act.put, List.getElem_toArray, List.getElem_cons_zero, List.getElem_cons_succ, List.setIfInBounds_toArray, List.set_cons_zero, List.set_cons_succ]
                      refine wpAnyH_take (i := 19) (v := ?v217) rfl (by kernel_rfl) (by kernel_rfl) (by kernel_rfl) (fun _ _ _ h => h) (Or.inl ⟨by rfl, ?hy217⟩) (by assumption) ?rest217
                      case hy217 => (intro w hSw; (try dsimp only at hSw); go_simp; all_goals (with_reducible rfl))
                      simp only [Act.put, List.getElem_toArray, List.getElem_cons_zero, List.getElem_cons_succ, List.setIfInBounds_toArray, List.set_cons_zero, List.set_cons_succ]
                      refine wpAnyH_ready (rs := [20]) (by kernel_rfl) (by simp) ?_
                      refine AllReadyH.cons rfl (fun K hK => ?_) AllReadyH.nil
                      go_simp
                      refine hK.out _ _ x8 (fun hHeld => ?_)
                      clear hK K
                      try simp only [Act.put, List.getElem_toArray, List.getElem_cons_zero, List.getElem_cons_succ, List.setIfInBounds_toArray, List.set_cons_zero, List.set_cons_succ]
                      refine wpAnyH_done (by kernel_rfl) ?_ _
                      refine NoPanic.normal ?_
                      have H8 : Hid ((als6.set p' (.slice (some ⟨g7, 0, none⟩) (Q + 1) c7)).length = q) := by show _ = _; rw [List.length_set]; exact H6.out
                      have L8 : Hid (∀ j, j < q → ((fun j => if j = p' then ct6 p' ++ [ov9 p'] else ct6 j) j).length ≤ 16 + r + (if j < p' + 1 then 1 else 0)) := fun j hj => by
                        by_cases e : j = p'
                        · subst e
                          have h1 := L6.out j hj
                          simp only [if_true]
                          rw [← e7.out, if_pos (by omega), HQ.out]
                          rw [if_neg (by omega)] at h1
                          omega
                        · have h1 := L6.out j hj
                          simp only [if_neg e]
                          split at h1 <;> split <;> omega
                      have M8 : Hid (∀ j, j < q → ∀ t, t < ((fun j => if j = p' then ct6 p' ++ [ov9 p'] else ct6 j) j).length → ((fun j => if j = p' then ct6 p' ++ [ov9 p'] else ct6 j) j).getD t ⟨#[]⟩ = ov9 j) := fun j hj t ht => by
                        by_cases e : j = p'
                        · subst e
                          simp only [if_true] at ht ⊢
                          rw [List.getD_eq_getElem?_getD, List.getElem?_append]
                          by_cases e2 : t < (ct6 j).length
                          · rw [if_pos e2, ← List.getD_eq_getElem?_getD]; exact M6.out j hj t e2
                          · rw [if_neg e2, show t - (ct6 j).length = 0 by simp at ht; omega]; rfl
                        · simp only [if_neg e] at ht ⊢
                          exact M6.out j hj t ht
                      clear HQ H6 L6 M6 HEb HRa hHeld x7 x7A f7A x8 e7
                      go_wp2
                      go_roundw
                      case rel => (try ((repeat apply Exists.intro); refine ⟨?_, rfl⟩)); exact ⟨p' + 1, by omega, by go_num, o7, _, _, r8, H8, L8, M8, eb8⟩
                      case measure => simp [intOf]; omega
                    · go_simp
                      refine hK.out _ _ xa (fun hHeld => ?_)
                      clear hK K
                      try simp only [Act.put, List.getElem_toArray, List.getElem_cons_zero, List.getElem_cons_succ, List.setIfInBounds_toArray, List.set_cons_zero, List.set_cons_succ]
                      refine wpAnyH_take (i := 16) (v := ?v218) rfl (by kernel_rfl) (by kernel_rfl) (by kernel_rfl) (fun _ _ _ h => h) (Or.inl ⟨by rfl, ?hy218⟩) (by assumption) ?rest218
                      case hy218 => (intro w hSw; (try dsimp only at hSw); have h1s : (one9 p').size = 1 := rfl; go_simp; all_goals (with_reducible rfl))
                      simp only [Act.put, List.getElem_toArray, List.getElem_cons_zero, List.getElem_cons_succ, List.setIfInBounds_toArray, List.set_cons_zero, List.set_cons_succ]
                      refine wpAnyH_ready (rs := [11, 17]) (by kernel_rfl) (by simp) ?_
                      refine AllReadyH.cons rfl (fun K hK => ?_) (AllReadyH.cons rfl (fun K hK => ?_) AllReadyH.nil)
                      · have y11 := xA
                        go_simp
                        refine hK.out _ _ hHeld (fun hHeld => ?_)
                        clear hK K
                        try simp only [Act.put, List.getElem_toArray, List.getElem_cons_zero, List.getElem_cons_succ, List.setIfInBounds_toArray, List.set_cons_zero, List.set_cons_succ]
                        refine wpAnyH_ready (rs := [17]) (by kernel_rfl) (by simp) ?_
                        refine AllReadyH.cons rfl (fun K hK => ?_) AllReadyH.nil
                        have ebb := HEb.out.step (allocStep (fun _ => False) wy o6 (.cells #[(.string (⟨#[111, 118, 101, 114]⟩ ++ one9 p'))] 9)) id id (fun _ h => h.elim)
                        have xb := ebb.ca
                        have xB := (ebb.sp.1.cellAt p' (by omega)).trans HCa.out
                        go_simp
                        refine hK.out _ _ xb (fun hHeld => ?_)
                        clear hK K
                        try simp only [Act.put, List.getElem_toArray, List.getElem_cons_zero, List.getElem_cons_succ, List.setIfInBounds_toArray, List.set_cons_zero, List.set_cons_succ]
                        refine wpAnyH_ready (rs := [18]) (by kernel_rfl) (by simp) ?_
                        refine AllReadyH.cons rfl (fun K hK => ?_) AllReadyH.nil
                        refine step_append_lab rfl (.tmp 110) (.tmp 116) 28 rfl 9 ii (.string ⟨#[]⟩) 1 16 Tryd.underlying28 hii hzi0 hzi1 hzi2 rfl (by decide) o6 (B + 500 + p') _ Q (strsL (ct6 p')) (by simp [Act.eval]) (rpa.step (allocStep (fun _ => False) wy o6 _) (by simp)) ⟨wy.heap.size, 0, none⟩ 1 1 [(.string (⟨#[111, 118, 101, 114]⟩ ++ one9 p'))] (by simp [Act.eval]) rfl (new_one_at (by simp) _ _) hone (by decide) b1 b2 ?_
                        intro g7 c7 w7 o7 r7 s7
                        have u7 := (allocStep (fun x => x = B + 500 + p') wy o6 _).trans s7
                        have eb7 := HEb.out.step u7 (by omega) (by omega) (fun x hx => by unfold SB; omega)
                        have x7 := eb7.ca
                        have x7A := (eb7.sp.1.cellAt p' (by omega)).trans HCa.out
                        have f7A : w7.frozen? ⟨ga, p', none⟩ = false := eb7.sp.1.frozenAt p'
                        have s8 := setStep (fun x => x = B + 10) w7 o7 ⟨ga, p', none⟩ (.slice (some ⟨g7, 0, none⟩) (Q + 1) c7) (eb7.sp.2 ga rfl)
                        have eb8 : EBT w o (w7.setCell ⟨ga, p', none⟩ (.slice (some ⟨g7, 0, none⟩) (Q + 1) c7)) o7 B ps c0 c1 vw (some ⟨ga, 0, none⟩) q cva (als6.set p' (.slice (some ⟨g7, 0, none⟩) (Q + 1) c7)) := ⟨eb7.blk.step s8 (by omega), eb7.sp.store p' (.slice (some ⟨g7, 0, none⟩) (Q + 1) c7), eb7.st.trans (s8.mono fun k hk => by unfold SB; omega)⟩
                        have x8 := eb8.ca
                        rw [← strsL_app] at r7
                        have e7 : Hid (Q + 1 = (ct6 p' ++ [ov9 p']).length) := by show Q + 1 = _; rw [HQ.out]; simp
                        have r7' := r7.step s8 (show ¬ (B + 500 + p' = B + 10) by omega)
                        have r8 := RwT.put (i := p') (v := (.slice (some ⟨g7, 0, none⟩) (Q + 1) c7)) (l := ct6 p' ++ [ov9 p']) (fun j hj hne => ((HRa.out j hj).step u7 (by omega)).step s8 (by omega)) H6.out hlt2 (by rw [← e7.out]; exact r7')
                        clear s8 eb7 u7 s7 r7 r7'
                        refine hK.out _ _ x7 (fun hHeld => ?_)
                        clear hK K
                        try simp only [Act.put, List.getElem_toArray, List.getElem_cons_zero, List.getElem_cons_succ, List.setIfInBounds_toArray, List.set_cons_zero, List.set_cons_succ]
                        refine wpAnyH_take (i := 19) (v := ?v219) rfl (by kernel_rfl) (by kernel_rfl) (by kernel_rfl) (fun _ _ _ h => h) (Or.inl ⟨by rfl, ?hy219⟩) (by assumption) ?rest219
                        case hy219 => (intro w hSw; (try dsimp only at hSw); go_simp; all_goals (with_reducible rfl))
                        simp only [Act.put, List.getElem_toArray, List.getElem_cons_zero, List.getElem_cons_succ, List.setIfInBounds_toArray, List.set_cons_zero, List.set_cons_succ]
                        refine wpAnyH_ready (rs := [20]) (by kernel_rfl) (by simp) ?_
                        refine AllReadyH.cons rfl (fun K hK => ?_) AllReadyH.nil
                        go_simp
                        refine hK.out _ _ x8 (fun hHeld => ?_)
                        clear hK K
                        try simp only [Act.put, List.getElem_toArray, List.getElem_cons_zero, List.getElem_cons_succ, List.setIfInBounds_toArray, List.set_cons_zero, List.set_cons_succ]
                        refine wpAnyH_done (by kernel_rfl) ?_ _
                        refine NoPanic.normal ?_
                        have H8 : Hid ((als6.set p' (.slice (some ⟨g7, 0, none⟩) (Q + 1) c7)).length = q) := by show _ = _; rw [List.length_set]; exact H6.out
                        have L8 : Hid (∀ j, j < q → ((fun j => if j = p' then ct6 p' ++ [ov9 p'] else ct6 j) j).length ≤ 16 + r + (if j < p' + 1 then 1 else 0)) := fun j hj => by
                          by_cases e : j = p'
                          · subst e
                            have h1 := L6.out j hj
                            simp only [if_true]
                            rw [← e7.out, if_pos (by omega), HQ.out]
                            rw [if_neg (by omega)] at h1
                            omega
                          · have h1 := L6.out j hj
                            simp only [if_neg e]
                            split at h1 <;> split <;> omega
                        have M8 : Hid (∀ j, j < q → ∀ t, t < ((fun j => if j = p' then ct6 p' ++ [ov9 p'] else ct6 j) j).length → ((fun j => if j = p' then ct6 p' ++ [ov9 p'] else ct6 j) j).getD t ⟨#[]⟩ = ov9 j) := fun j hj t ht => by
                          by_cases e : j = p'
                          · subst e
                            simp only [if_true] at ht ⊢
                            rw [List.getD_eq_getElem?_getD, List.getElem?_append]
                            by_cases e2 : t < (ct6 j).length
                            · rw [if_pos e2, ← List.getD_eq_getElem?_getD]; exact M6.out j hj t e2
                            · rw [if_neg e2, show t - (ct6 j).length = 0 by simp at ht; omega]; rfl
                          · simp only [if_neg e] at ht ⊢
                            exact M6.out j hj t ht
                        clear HQ H6 L6 M6 HEb HRa hHeld x7 x7A f7A x8 e7
                        go_wp2
                        go_roundw
                        case rel => (try ((repeat apply Exists.intro); refine ⟨?_, rfl⟩)); exact ⟨p' + 1, by omega, by go_num, o7, _, _, r8, H8, L8, M8, eb8⟩
                        case measure => simp [intOf]; omega
                      · have ebb := HEb.out.step (allocStep (fun _ => False) wy o6 (.cells #[(.string (⟨#[111, 118, 101, 114]⟩ ++ one9 p'))] 9)) id id (fun _ h => h.elim)
                        have xb := ebb.ca
                        have xB := (ebb.sp.1.cellAt p' (by omega)).trans HCa.out
                        go_simp
                        refine hK.out _ _ xb (fun hHeld => ?_)
                        clear hK K
                        try simp only [Act.put, List.getElem_toArray, List.getElem_cons_zero, List.getElem_cons_succ, List.setIfInBounds_toArray, List.set_cons_zero, List.set_cons_succ]
                        refine wpAnyH_ready (rs := [11]) (by kernel_rfl) (by simp) ?_
                        refine AllReadyH.cons rfl (fun K hK => ?_) AllReadyH.nil
                        have y11 := xB
                        go_simp
                        refine hK.out _ _ hHeld (fun hHeld => ?_)
                        clear hK K
                        try simp only [Act.put, List.getElem_toArray, List.getElem_cons_zero, List.getElem_cons_succ, List.setIfInBounds_toArray, List.set_cons_zero, List.set_cons_succ]
                        refine wpAnyH_ready (rs := [18]) (by kernel_rfl) (by simp) ?_
                        refine AllReadyH.cons rfl (fun K hK => ?_) AllReadyH.nil
                        refine step_append_lab rfl (.tmp 110) (.tmp 116) 28 rfl 9 ii (.string ⟨#[]⟩) 1 16 Tryd.underlying28 hii hzi0 hzi1 hzi2 rfl (by decide) o6 (B + 500 + p') _ Q (strsL (ct6 p')) (by simp [Act.eval]) (rpa.step (allocStep (fun _ => False) wy o6 _) (by simp)) ⟨wy.heap.size, 0, none⟩ 1 1 [(.string (⟨#[111, 118, 101, 114]⟩ ++ one9 p'))] (by simp [Act.eval]) rfl (new_one_at (by simp) _ _) hone (by decide) b1 b2 ?_
                        intro g7 c7 w7 o7 r7 s7
                        have u7 := (allocStep (fun x => x = B + 500 + p') wy o6 _).trans s7
                        have eb7 := HEb.out.step u7 (by omega) (by omega) (fun x hx => by unfold SB; omega)
                        have x7 := eb7.ca
                        have x7A := (eb7.sp.1.cellAt p' (by omega)).trans HCa.out
                        have f7A : w7.frozen? ⟨ga, p', none⟩ = false := eb7.sp.1.frozenAt p'
                        have s8 := setStep (fun x => x = B + 10) w7 o7 ⟨ga, p', none⟩ (.slice (some ⟨g7, 0, none⟩) (Q + 1) c7) (eb7.sp.2 ga rfl)
                        have eb8 : EBT w o (w7.setCell ⟨ga, p', none⟩ (.slice (some ⟨g7, 0, none⟩) (Q + 1) c7)) o7 B ps c0 c1 vw (some ⟨ga, 0, none⟩) q cva (als6.set p' (.slice (some ⟨g7, 0, none⟩) (Q + 1) c7)) := ⟨eb7.blk.step s8 (by omega), eb7.sp.store p' (.slice (some ⟨g7, 0, none⟩) (Q + 1) c7), eb7.st.trans (s8.mono fun k hk => by unfold SB; omega)⟩
                        have x8 := eb8.ca
                        rw [← strsL_app] at r7
                        have e7 : Hid (Q + 1 = (ct6 p' ++ [ov9 p']).length) := by show Q + 1 = _; rw [HQ.out]; simp
                        have r7' := r7.step s8 (show ¬ (B + 500 + p' = B + 10) by omega)
                        have r8 := RwT.put (i := p') (v := (.slice (some ⟨g7, 0, none⟩) (Q + 1) c7)) (l := ct6 p' ++ [ov9 p']) (fun j hj hne => ((HRa.out j hj).step u7 (by omega)).step s8 (by omega)) H6.out hlt2 (by rw [← e7.out]; exact r7')
                        clear s8 eb7 u7 s7 r7 r7'
                        refine hK.out _ _ x7 (fun hHeld => ?_)
                        clear hK K
                        try simp only [Act.put, List.getElem_toArray, List.getElem_cons_zero, List.getElem_cons_succ, List.setIfInBounds_toArray, List.set_cons_zero, List.set_cons_succ]
                        refine wpAnyH_take (i := 19) (v := ?v220) rfl (by kernel_rfl) (by kernel_rfl) (by kernel_rfl) (fun _ _ _ h => h) (Or.inl ⟨by rfl, ?hy220⟩) (by assumption) ?rest220
                        case hy220 => (intro w hSw; (try dsimp only at hSw); go_simp; all_goals (with_reducible rfl))
                        simp only [Act.put, List.getElem_toArray, List.getElem_cons_zero, List.getElem_cons_succ, List.setIfInBounds_toArray, List.set_cons_zero, List.set_cons_succ]
                        refine wpAnyH_ready (rs := [20]) (by kernel_rfl) (by simp) ?_
                        refine AllReadyH.cons rfl (fun K hK => ?_) AllReadyH.nil
                        go_simp
                        refine hK.out _ _ x8 (fun hHeld => ?_)
                        clear hK K
                        try simp only [Act.put, List.getElem_toArray, List.getElem_cons_zero, List.getElem_cons_succ, List.setIfInBounds_toArray, List.set_cons_zero, List.set_cons_succ]
                        refine wpAnyH_done (by kernel_rfl) ?_ _
                        refine NoPanic.normal ?_
                        have H8 : Hid ((als6.set p' (.slice (some ⟨g7, 0, none⟩) (Q + 1) c7)).length = q) := by show _ = _; rw [List.length_set]; exact H6.out
                        have L8 : Hid (∀ j, j < q → ((fun j => if j = p' then ct6 p' ++ [ov9 p'] else ct6 j) j).length ≤ 16 + r + (if j < p' + 1 then 1 else 0)) := fun j hj => by
                          by_cases e : j = p'
                          · subst e
                            have h1 := L6.out j hj
                            simp only [if_true]
                            rw [← e7.out, if_pos (by omega), HQ.out]
                            rw [if_neg (by omega)] at h1
                            omega
                          · have h1 := L6.out j hj
                            simp only [if_neg e]
                            split at h1 <;> split <;> omega
                        have M8 : Hid (∀ j, j < q → ∀ t, t < ((fun j => if j = p' then ct6 p' ++ [ov9 p'] else ct6 j) j).length → ((fun j => if j = p' then ct6 p' ++ [ov9 p'] else ct6 j) j).getD t ⟨#[]⟩ = ov9 j) := fun j hj t ht => by
                          by_cases e : j = p'
                          · subst e
                            simp only [if_true] at ht ⊢
                            rw [List.getD_eq_getElem?_getD, List.getElem?_append]
                            by_cases e2 : t < (ct6 j).length
                            · rw [if_pos e2, ← List.getD_eq_getElem?_getD]; exact M6.out j hj t e2
                            · rw [if_neg e2, show t - (ct6 j).length = 0 by simp at ht; omega]; rfl
                          · simp only [if_neg e] at ht ⊢
                            exact M6.out j hj t ht
                        clear HQ H6 L6 M6 HEb HRa hHeld x7 x7A f7A x8 e7
                        go_wp2
                        go_roundw
                        case rel => (try ((repeat apply Exists.intro); refine ⟨?_, rfl⟩)); exact ⟨p' + 1, by omega, by go_num, o7, _, _, r8, H8, L8, M8, eb8⟩
                        case measure => simp [intOf]; omega
                · obtain rfl : p' = q := by omega
                  have L7 : Hid (∀ j, j < p' → (ct6 j).length ≤ 16 + (r + 1)) := fun j hj => by
                    have h1 := L6.out j hj
                    rw [if_pos hj] at h1
                    omega
                  go_wp2
                  go_roundw
                  case rel => (try ((repeat apply Exists.intro); refine ⟨?_, rfl⟩)); exact ⟨r + 1, by omega, by go_num, o6, als6, ct6, r6, H6, L7, M6, eb⟩
                  case measure => simp [intOf]; omega
            · obtain rfl : r = 12 := by omega
              have e3 := eb.ca
              clear hlt hr
              go_wp2
              clear e3
              obtain ⟨w5, hw5⟩ : ∃ w5, w5 = wr := ⟨_, rfl⟩
              rw [← hw5] at r5 eb ⊢
              clear hw5
              go_loopw [11] (fun i wv => ∃ p' : Nat, p' ≤ q ∧ i = .int .i64 p' ∧ Step (fun _ => False) w5 o5 wv o5) (fun i _ => q - (intOf i).toNat)
              case atStart => exact ⟨0, by omega, by go_num, Step.refl _ _ _⟩
              case round =>
                obtain ⟨p', hp, rfl, sv⟩ := hrel
                have e3 := (eb.step sv id id (fun _ h => h.elim)).ca
                by_cases hlt : p' < q
                · obtain ⟨ga, cva', hv, hogA, hca, hma, hgl, _, _⟩ := eb.sp.pos (by omega)
                  simp only [Value.slice.injEq, true_and] at hv
                  obtain ⟨rfl, rfl⟩ := hv
                  have hpA : p' < als5.length := by rw [H5.out]; exact hlt
                  have rp := r5 p' hlt
                  have hva := rp.form
                  obtain ⟨aq, cq, hva⟩ := hva
                  rw [hva] at rp
                  obtain ⟨Q, hQ⟩ : ∃ Q, Q = (ct5 p').length := ⟨_, rfl⟩
                  have hQb : Q ≤ 30 := by have h1 := L5.out p' hlt; rw [← hQ] at h1; omega
                  have HQ : Hid (Q = (ct5 p').length) := hQ
                  have HCa : Hid (als5[p']? = some (.slice aq Q cq)) := by rw [hQ, ← hva]; show als5[p']? = _; simp [hpA]
                  have cA := ((eb.step sv id id (fun _ h => h.elim)).sp.1.cellAt p' (by omega)).trans HCa.out
                  rw [← hQ] at rp
                  unfold maxLen at hma
                  clear hQ hpA hva
                  go_wp2
                  clear e3 cA
                  go_loopw [12] (fun i wv => ∃ t : Nat, t ≤ Q ∧ i = .int .i64 t ∧ Step (fun _ => False) w5 o5 wv o5) (fun i _ => Q - (intOf i).toNat)
                  case atStart => exact ⟨0, by omega, by go_num, sv⟩
                  case round =>
                    clear sv
                    obtain ⟨t, ht, rfl, sv⟩ := hrel
                    have e3 := (eb.step sv id id (fun _ h => h.elim)).ca
                    have cA := ((eb.step sv id id (fun _ h => h.elim)).sp.1.cellAt p' (by omega)).trans HCa.out
                    by_cases hlt2 : t < Q
                    · obtain ⟨gq, cq', hv, hogq, hcq, hmq, hglq, _, _⟩ := rp.pos (by omega)
                      simp only [Value.slice.injEq, true_and] at hv
                      obtain ⟨rfl, rfl⟩ := hv
                      have htc : t < (ct5 p').length := by rw [← HQ.out]; exact hlt2
                      have hcv : (strsL (ct5 p'))[t]? = some (.string (⟨#[111, 118, 101, 114]⟩ ++ one9 p')) := (strsL_get _ t htc).trans (by rw [M5.out p' hlt t htc]; rfl)
                      have cQ := ((rp.step sv id).1.cellAt t (by omega)).trans hcv
                      unfold maxLen at hmq
                      clear htc
                      have hs : (convert 70 9 (.slice (some ⟨wr.heap.size, 0, none⟩) 1 1)).run Tryd.prog (wr.alloc (.cells #[.int .u8 (p' : Int)] 5)).drew = .ok (.string (one9 p')) (wr.alloc (.cells #[.int .u8 (p' : Int)] 5)).drew := one_conv wr.drew p' (by omega)
                      have hu8 : IntKind.u8.wrap (p' : Int) = p' := by unfold IntKind.wrap; simp [IntKind.signed, IntKind.bits]; omega
                      have sa : Step (fun _ => False) wr o5 (wr.alloc (.cells #[.int .u8 (p' : Int)] 5)).drew o5 := ((Step.refl (fun _ => False) wr o5).alloc _).drew
                      have sv2 := sv.trans sa
                      have k1 := (eb.step sv2 id id (fun _ h => h.elim)).ca
                      have k2 := (((eb.step sv2 id id (fun _ h => h.elim)).sp).1.cellAt p' (by omega)).trans HCa.out
                      have k3 := ((rp.step sv2 id).1.cellAt t (by omega)).trans hcv
                      clear sa
                      go_upto_region 31 with fail
                      refine wp_region_noPanic ?_
                      refine wp_region_held_drew (S := fun wx => wx.cell? ⟨ps, 2, none⟩ = some (.slice (some ⟨ga, 0, none⟩) q cva) ∧ wx.cell? ⟨ga, p', none⟩ = some (.slice (some ⟨gq, 0, none⟩) Q cq) ∧ wx.cell? ⟨gq, t, none⟩ = some (.string (⟨#[111, 118, 101, 114]⟩ ++ one9 p'))) (by kernel_rfl) ⟨e3, cA, cQ⟩ (fun hHeld => ?_)
                      refine wpAnyH_take (i := 0) (v := ?v221) rfl (by kernel_rfl) (by kernel_rfl) (by kernel_rfl) (fun _ _ _ h => h) (Or.inl ⟨by rfl, ?hy221⟩) (by assumption) ?rest221
                      case hy221 => (intro w hSw; (try dsimp only at hSw); go_simp; all_goals (with_reducible rfl))
                      simp only [Act.put, List.getElem_toArray, List.getElem_cons_zero, List.getElem_cons_succ, List.setIfInBounds_toArray, List.set_cons_zero, List.set_cons_succ]
                      refine wpAnyH_take (i := 1) (v := ?v222) rfl (by kernel_rfl) (by kernel_rfl) (by kernel_rfl) (fun _ _ _ h => h) (Or.inl ⟨by rfl, ?hy222⟩) (by assumption) ?rest222
                      case hy222 => (intro w hSw; (try dsimp only at hSw); go_simp; all_goals (with_reducible rfl))
                      simp only [Act.put, List.getElem_toArray, List.getElem_cons_zero, List.getElem_cons_succ, List.setIfInBounds_toArray, List.set_cons_zero, List.set_cons_succ]
                      refine wpAnyH_take (i := 2) (v := ?v223) rfl (by kernel_rfl) (by kernel_rfl) (by kernel_rfl) (fun _ _ _ h => h) (Or.inl ⟨by rfl, ?hy223⟩) (by assumption) ?rest223
                      case hy223 => (intro w hSw; (try dsimp only at hSw); go_simp; all_goals (with_reducible rfl))
                      simp only [Act.put, List.getElem_toArray, List.getElem_cons_zero, List.getElem_cons_succ, List.setIfInBounds_toArray, List.set_cons_zero, List.set_cons_succ]
                      refine wpAnyH_take (i := 3) (v := ?v224) rfl (by kernel_rfl) (by kernel_rfl) (by kernel_rfl) (fun _ _ _ h => h) (Or.inl ⟨by rfl, ?hy224⟩) (by assumption) ?rest224
                      case hy224 => (intro w hSw; (try dsimp only at hSw); have x3 := hSw.1; go_simp; all_goals (with_reducible rfl))
                      simp only [Act.put, List.getElem_toArray, List.getElem_cons_zero, List.getElem_cons_succ, List.setIfInBounds_toArray, List.set_cons_zero, List.set_cons_succ]
                      refine wpAnyH_take (i := 4) (v := ?v225) rfl (by kernel_rfl) (by kernel_rfl) (by kernel_rfl) (fun _ _ _ h => h) (Or.inl ⟨by rfl, ?hy225⟩) (by assumption) ?rest225
                      case hy225 => (intro w hSw; (try dsimp only at hSw); go_simp; all_goals (with_reducible rfl))
                      simp only [Act.put, List.getElem_toArray, List.getElem_cons_zero, List.getElem_cons_succ, List.setIfInBounds_toArray, List.set_cons_zero, List.set_cons_succ]
                      refine wpAnyH_take (i := 5) (v := ?v226) rfl (by kernel_rfl) (by kernel_rfl) (by kernel_rfl) (fun _ _ _ h => h) (Or.inl ⟨by rfl, ?hy226⟩) (by assumption) ?rest226
                      case hy226 => (intro w hSw; (try dsimp only at hSw); go_simp; all_goals (with_reducible rfl))
                      simp only [Act.put, List.getElem_toArray, List.getElem_cons_zero, List.getElem_cons_succ, List.setIfInBounds_toArray, List.set_cons_zero, List.set_cons_succ]
                      refine wpAnyH_take (i := 6) (v := ?v227) rfl (by kernel_rfl) (by kernel_rfl) (by kernel_rfl) (fun _ _ _ h => h) (Or.inl ⟨by rfl, ?hy227⟩) (by assumption) ?rest227
                      case hy227 => (intro w hSw; (try dsimp only at hSw); have x3 := hSw.2.1; go_simp; all_goals (with_reducible rfl))
                      simp only [Act.put, List.getElem_toArray, List.getElem_cons_zero, List.getElem_cons_succ, List.setIfInBounds_toArray, List.set_cons_zero, List.set_cons_succ]
                      refine wpAnyH_take (i := 7) (v := ?v228) rfl (by kernel_rfl) (by kernel_rfl) (by kernel_rfl) (fun _ _ _ h => h) (Or.inl ⟨by rfl, ?hy228⟩) (by assumption) ?rest228
                      case hy228 => (intro w hSw; (try dsimp only at hSw); go_simp; all_goals (with_reducible rfl))
                      simp only [Act.put, List.getElem_toArray, List.getElem_cons_zero, List.getElem_cons_succ, List.setIfInBounds_toArray, List.set_cons_zero, List.set_cons_succ]
                      refine wpAnyH_take (i := 8) (v := ?v229) rfl (by kernel_rfl) (by kernel_rfl) (by kernel_rfl) (fun _ _ _ h => h) (Or.inl ⟨by rfl, ?hy229⟩) (by assumption) ?rest229
                      case hy229 => (intro w hSw; (try dsimp only at hSw); go_simp; all_goals (with_reducible rfl))
                      simp only [Act.put, List.getElem_toArray, List.getElem_cons_zero, List.getElem_cons_succ, List.setIfInBounds_toArray, List.set_cons_zero, List.set_cons_succ]
                      refine wpAnyH_take (i := 9) (v := ?v230) rfl (by kernel_rfl) (by kernel_rfl) (by kernel_rfl) (fun _ _ _ h => h) (Or.inl ⟨by rfl, ?hy230⟩) (by assumption) ?rest230
                      case hy230 => (intro w hSw; (try dsimp only at hSw); have x3 := hSw.2.2; go_simp; all_goals (with_reducible rfl))
                      simp only [Act.put, List.getElem_toArray, List.getElem_cons_zero, List.getElem_cons_succ, List.setIfInBounds_toArray, List.set_cons_zero, List.set_cons_succ]
                      refine wpAnyH_take (i := 10) (v := ?v231) rfl (by kernel_rfl) (by kernel_rfl) (by kernel_rfl) (fun _ _ _ h => h) (Or.inl ⟨by rfl, ?hy231⟩) (by assumption) ?rest231
                      case hy231 => (intro w hSw; (try dsimp only at hSw); go_simp; all_goals (with_reducible rfl))
                      simp only [Act.put, List.getElem_toArray, List.getElem_cons_zero, List.getElem_cons_succ, List.setIfInBounds_toArray, List.set_cons_zero, List.set_cons_succ]
                      refine wpAnyH_take (i := 11) (v := ?v232) rfl (by kernel_rfl) (by kernel_rfl) (by kernel_rfl) (fun _ _ _ h => h) (Or.inl ⟨by rfl, ?hy232⟩) (by assumption) ?rest232
                      case hy232 => (intro w hSw; (try dsimp only at hSw); go_simp; all_goals (with_reducible rfl))
                      simp only [Act.put, List.getElem_toArray, List.getElem_cons_zero, List.getElem_cons_succ, List.setIfInBounds_toArray, List.set_cons_zero, List.set_cons_succ]
                      refine wpAnyH_ready (rs := [12]) (by kernel_rfl) (by simp) ?_
                      refine AllReadyH.cons rfl (fun K hK => ?_) AllReadyH.nil
                      go_simp
                      refine hK.out _ _ ⟨k1, k2, k3⟩ (fun hHeld => ?_)
                      clear hK K
                      try simp only [Act.put, List.getElem_toArray, List.getElem_cons_zero, List.getElem_cons_succ, List.setIfInBounds_toArray, List.set_cons_zero, List.set_cons_succ]
                      refine wpAnyH_ready (rs := [13]) (by kernel_rfl) (by simp) ?_
                      refine AllReadyH.cons rfl (fun K hK => ?_) AllReadyH.nil
                      go_simp
                      refine hK.out _ _ ⟨k1, k2, k3⟩ (fun hHeld => ?_)
                      clear hK K
                      try simp only [Act.put, List.getElem_toArray, List.getElem_cons_zero, List.getElem_cons_succ, List.setIfInBounds_toArray, List.set_cons_zero, List.set_cons_succ]
                      refine wpAnyH_take (i := 14) (v := ?v233) rfl (by kernel_rfl) (by kernel_rfl) (by kernel_rfl) (fun _ _ _ h => h) (Or.inl ⟨by rfl, ?hy233⟩) (by assumption) ?rest233
                      case hy233 => (intro w hSw; (try dsimp only at hSw); have h1s : (one9 p').size = 1 := rfl; go_simp; all_goals (with_reducible rfl))
                      simp only [Act.put, List.getElem_toArray, List.getElem_cons_zero, List.getElem_cons_succ, List.setIfInBounds_toArray, List.set_cons_zero, List.set_cons_succ]
                      refine wpAnyH_take (i := 15) (v := ?v234) rfl (by kernel_rfl) (by kernel_rfl) (by kernel_rfl) (fun _ _ _ h => h) (Or.inl ⟨by rfl, ?hy234⟩) (by assumption) ?rest234
                      case hy234 => (intro w hSw; (try dsimp only at hSw); go_simp; all_goals (with_reducible rfl))
                      simp only [Act.put, List.getElem_toArray, List.getElem_cons_zero, List.getElem_cons_succ, List.setIfInBounds_toArray, List.set_cons_zero, List.set_cons_succ]
                      refine wpAnyH_done (by kernel_rfl) ?_ _
                      refine NoPanic.normal ?_
                      clear hs k1 k2 k3 hHeld e3 cA cQ
                      go_wp2
                      go_roundw
                      case rel => (try ((repeat apply Exists.intro); refine ⟨?_, rfl⟩)); exact ⟨t + 1, by omega, by go_num, sv2⟩
                      case measure => simp [intOf]; omega
                    · obtain rfl : t = Q := by omega
                      go_wp2
                      go_roundw
                      case rel => (try ((repeat apply Exists.intro); refine ⟨?_, rfl⟩)); exact ⟨p' + 1, by omega, by go_num, sv⟩
                      case measure => simp [intOf]; omega
                · obtain rfl : p' = q := by omega
                  have HR := eb.st.trans (sv.mono (fun _ h => h.elim))
                  clear hlt hp r5 H5 L5 M5 eb
                  go_wp2
                  go_ret
                  exact ⟨rfl, _, HR⟩
end Go.Proofs.YtmpkhbblakfglaaDoor
