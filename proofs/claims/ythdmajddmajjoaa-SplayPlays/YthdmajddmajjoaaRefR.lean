/- The document's own forest: Join, two sequences. -/
import Derived.Test.YthdmajddmajjoaaRefQ
import Derived.Deep.RegionHeld
namespace Go.Proofs.Ythdmajddmajjoaa
open Go.ChangeShapes Go.WideShapes Go.ChangeAt Go.RowKit
set_option linter.unusedVariables false
set_option linter.unusedSimpArgs false

section
variable {w : World} {o : Nat → Nat} {R q m pa : Nat} {vi vn vl : Value} {its : List It} {inL : List Nat} {ls : List Value} {LL : List (List Nat)}
theorem Rm.cellL {gl cl : Nat} (h : Rm w o R q m pa vi vn (.slice (some ⟨gl, 0, none⟩) LL.length cl) its inL ls LL) {i : Nat} (hi : i < LL.length) : w.cell? ⟨gl, i, none⟩ = some (ls.getD i (.slice none 0 0)) := by
  obtain ⟨g', _, eq, _, _, _, _, a3, _⟩ := h.rl.pos (by omega)
  injection eq with eq _ _
  injection eq with eq
  injection eq with eq _ _
  subst eq
  have hll := h.ll
  have hx : i < ls.length := by omega
  rw [a3 i (by omega)]
  simp [List.getD, List.getElem?_eq_getElem hx]
theorem Rm.cellR (h : Rm w o R q m pa vi vn vl its inL ls LL) {i g N cap : Nat} (hi : i < LL.length) (hl : (LL.getD i []).length = N) (eg : ls.getD i (.slice none 0 0) = .slice (some ⟨g, 0, none⟩) N cap) {j : Nat} (hj : j < N) : w.cell? ⟨g, j, none⟩ = some (.int .i64 ((LL.getD i []).getD j 0 : Nat)) := by
  have hr := h.rows i hi
  rw [eg, hl] at hr
  obtain ⟨g', _, eq, _, _, _, _, a3, _⟩ := hr.pos (by omega)
  injection eq with eq _ _
  injection eq with eq
  injection eq with eq _ _
  subst eq
  have hx : j < (LL.getD i []).length := by omega
  rw [a3 j (by omega)]
  generalize LL.getD i [] = l at hx
  rw [intsL_get _ j hx]
  simp [List.getD, List.getElem?_eq_getElem hx]
theorem row_cellL {w : World} {o : Nat → Nat} {i0 gl cl N : Nat} {ls : List Value} (r : Row w o i0 60 1 (.slice (some ⟨gl, 0, none⟩) N cl) N ls) (hl : ls.length = N) {i : Nat} (hi : i < N) : w.cell? ⟨gl, i, none⟩ = some (ls.getD i (.slice none 0 0)) := by
  obtain ⟨g', _, eq, _, _, _, _, a3, _⟩ := r.pos (by omega)
  injection eq with eq _ _
  injection eq with eq
  injection eq with eq _ _
  subst eq
  have hx : i < ls.length := by omega
  rw [a3 i (by omega)]
  simp [List.getD, List.getElem?_eq_getElem hx]
theorem intsL_app3 (a b : List Nat) : intsL (a ++ b) = intsL a ++ intsL b := by simp [intsL]
theorem Rm.cellN {gn cn : Nat} (h : Rm w o R q m pa vi (.slice (some ⟨gn, 0, none⟩) m cn) vl its inL ls LL) {k : Nat} (hk : k < m) : w.cell? ⟨gn, k, none⟩ = some (.int .i64 (inL.getD k 0 : Nat)) := by
  obtain ⟨gn', _, eq, _, _, _, _, a3, _⟩ := h.rn.pos (by omega)
  injection eq with eq _ _
  injection eq with eq
  injection eq with eq _ _
  subst eq
  have hln := h.ln
  rw [a3 k (by omega), intsL_get _ k (by omega)]
  simp [List.getD, List.getElem?_eq_getElem (show k < inL.length by omega)]
theorem Rm.joined {gl cl i j : Nat} {w2 : World} {o2 : Nat → Nat} {v : Value} {l2 : List Nat} (h : Rm w o R q m pa vi vn (.slice (some ⟨gl, 0, none⟩) LL.length cl) its inL ls LL) (hi : i < LL.length) (hj : j < LL.length) (hij : i ≠ j) (r2 : Row w2 o2 (R + 10 + i) 3 1 v l2.length (intsL l2)) (s2 : Step (fun k => k = R + 10 + i) w o w2 o2) :
    Rm ((w2.setCell ⟨gl, i, none⟩ v).setCell ⟨gl, j, none⟩ (.slice none 0 0)) o2 R q m pa vi vn (.slice (some ⟨gl, 0, none⟩) LL.length cl) its inL ((ls.set i v).set j (.slice none 0 0)) ((LL.set i l2).set j []) ∧ Step (XL R) w o ((w2.setCell ⟨gl, i, none⟩ v).setCell ⟨gl, j, none⟩ (.slice none 0 0)) o2 := by
  have r3 := h.rl.step s2 (by omega)
  have hg : o2 gl = R + 6 := r3.2 gl rfl
  have s3 : Step (fun k => k = R + 6) w2 o2 ((w2.setCell ⟨gl, i, none⟩ v).setCell ⟨gl, j, none⟩ (.slice none 0 0)) o2 := ((Step.refl _ w2 o2).setCell _ _ hg).setCell _ _ hg
  have r4 := (r3.store i v).store j (.slice none 0 0)
  have hll := h.ll
  have hm := h.many
  have el : ((LL.set i l2).set j []).length = LL.length := by simp
  refine ⟨⟨(h.blk.step s2 (by omega)).step s3 (by omega), (h.ri.step s2 (by omega)).step s3 (by omega), h.li, (h.rn.step s2 (by omega)).step s3 (by omega), h.ln, by rw [el]; exact r4, by simp [hll], fun k hk => ?_, by rw [el]; exact hm⟩, (s2.mono fun l hl => by unfold XL; omega).trans (s3.mono fun l hl => by unfold XL; omega)⟩
  rw [el] at hk
  by_cases e : k = j
  · subst e
    rw [getD_set_same _ _ _ _ (by simp; omega), getD_set_same _ _ _ _ (by simp; omega)]
    exact Row.nil _ _ _ _ _
  · rw [getD_set_other _ _ _ _ _ e, getD_set_other _ _ _ _ _ e]
    by_cases e2 : k = i
    · subst e2
      rw [getD_set_same _ _ _ _ (by omega), getD_set_same _ _ _ _ hk]
      exact r2.step s3 (by omega)
    · rw [getD_set_other _ _ _ _ _ e2, getD_set_other _ _ _ _ _ e2]
      exact ((h.rows k hk).step s2 (by omega)).step s3 (by omega)
end
section
variable {w : World} {o : Nat → Nat} {R q room n M : Nat} {free : List Nat} {it : Nat → It} {S : Nat → List Nat} {pa : Nat} {vi vn vl : Value} {its : List It} {inL : List Nat} {ls : List Value} {LL : List (List Nat)}
set_option maxRecDepth 100000 in
set_option maxHeartbeats 2000000 in
theorem x_join_in (a b : Nat) (h : Rx w o R q room n M free it S pa vi vn vl its inL ls LL) (ha : Live n free a) (hb : Live n free b) (hs : S a ≠ S b) :
    Calls Try.prog 22 #[.pointer (some ⟨q, 0, none⟩), .int .i64 (a : Nat), .int .i64 (b : Nat)] w fun e w' => e = .returned (.int .i64 0) ∧ ∃ o' inL' ls' LL', Rx w' o' R q room n M free it (joinS S a b) pa vi vn vl its inL' ls' LL' ∧ Step (XL R) w o w' o' := by
  have c1 := x_has (a : Int) h
  have c2 := x_has (b : Int) h
  rw [hasB_nat ha] at c1
  rw [hasB_nat hb] at c2
  obtain ⟨d0, d1, d2, d3, hf⟩ := h.blk.cells4
  obtain ⟨gn, cn, gl, cl, rfl, rfl, n1, n2, l1, l2, e1, hia, -, hLa⟩ := h.at ha
  have e2 := h.cellN rfl hb.2.1
  obtain ⟨hib, hLb⟩ := h.rp.own b hb
  have hi : inL.getD a 0 ≠ inL.getD b 0 := fun e => hs ((h.rp.same h.pl ha hb).1 e)
  have haI : (a : Int) < (n : Int) + 1 := by have := ha.2.1; omega
  have hbI : (b : Int) < (n : Int) + 1 := by have := hb.2.1; omega
  have lenA := h.len ha
  have lenB := h.len hb
  obtain ⟨g, cap, eg, g1, g2, -⟩ := h.list hb
  obtain ⟨ga, capa, ega, -, -, -⟩ := h.list ha
  have hpb : 0 < (S b).length := List.length_pos_of_mem (h.pl.self b hb)
  have HN : Hid (∀ j, j < (S b).length → (S b).getD j 0 ≤ n) := fun j hj => by
    have := (h.pl.mem b hb _ (List.getElem_mem hj)).1.2.1
    simpa [List.getD, List.getElem?_eq_getElem hj] using this
  have m0 := h.rm
  have HX : Hid (Rx w o R q room n M free it S pa vi (.slice (some ⟨gn, 0, none⟩) (n + 1) cn) (.slice (some ⟨gl, 0, none⟩) LL.length cl) its inL ls LL ∧ Live n free a ∧ Live n free b ∧ S a ≠ S b) := ⟨h, ha, hb, hs⟩
  have HIA : Hid (∃ ia, inL.getD a 0 = ia) := ⟨_, rfl⟩
  generalize hta : inL.getD a 0 = ia at *
  generalize htb : inL.getD b 0 = ib at *
  have HTA : Hid (inL.getD a 0 = ia) := hta
  have HTB : Hid (inL.getD b 0 = ib) := htb
  generalize hla : S a = la at *
  generalize hlb : S b = lb at *
  have HLA : Hid (S a = la) := hla
  have HLB : Hid (S b = lb) := hlb
  clear hta htb hla hlb h ha hb hs HIA
  have hiI : ((ia : Int) == (ib : Int)) = false := by simp; omega
  have hibI : (ib : Int) < (LL.length : Int) := by omega
  have hiaI : (ia : Int) < (LL.length : Int) := by omega
  go_enter Try.func22, Try.ntmps22
  go_wp2_with fail
  refine c1.mono ?_
  rintro e w1 ⟨rfl, rfl⟩
  go_wp2_with fail
  refine c2.mono ?_
  rintro e w2 ⟨rfl, rfl⟩
  clear c1 c2
  go_wp2
  clear d0 d1 d2 d3 hf e1 e2
  go_loopw [11] (fun v wr => ∃ j : Nat, v = .int .i64 (j : Nat) ∧ j ≤ lb.length ∧ Rm wr o R q (n + 1) pa vi (.slice (some ⟨gn, 0, none⟩) (n + 1) cn) (.slice (some ⟨gl, 0, none⟩) LL.length cl) its (told inL (lb.take j) ia) ls LL ∧ Step (fun k => k = R + 5) w2 o wr o) (fun v _ => lb.length - (intOf v).toNat)
  case atStart => exact ⟨0, by go_num, by omega, m0, Step.refl _ _ _⟩
  case round =>
    obtain ⟨j, rfl, hj, MJ, SJ⟩ := hrel
    clear m0
    have k2 := MJ.cellL hib
    rw [eg] at k2
    obtain ⟨d0, d1, d2, d3, hf⟩ := MJ.blk.cells4
    by_cases hlt : j < lb.length
    · have hjI : (j : Int) < (lb.length : Int) := by omega
      have hz := HN.out j hlt
      have k3 := MJ.cellR hib (by rw [hLb]) eg hlt
      rw [hLb] at k3
      have HG : Hid (told inL (lb.take (j + 1)) ia = (told inL (lb.take j) ia).set (lb.getD j 0) ia) := by
        rw [← told_snoc, List.take_succ_eq_append_getElem hlt]
        simp [Hid, List.getD, List.getElem?_eq_getElem hlt]
      obtain ⟨z, hzz⟩ : ∃ z, z = lb.getD j 0 := ⟨_, rfl⟩
      have HZ : Hid (lb.getD j 0 = z) := hzz.symm
      rw [← hzz] at HG hz k3
      clear hzz
      have hzI : (z : Int) < (n : Int) + 1 := by omega
      have k4 := MJ.cellN (k := z) (by omega)
      generalize (told inL (lb.take j) ia).getD z 0 = zo at k4
      have frn : ∀ j, wr.frozen? ⟨gn, j, none⟩ = false := fun j => MJ.rn.1.frozenAt j
      obtain ⟨M5', s5'⟩ := MJ.inn z ia
      rw [← HG.out] at M5'
      have d5 := (Step.refl (fun _ => False) (wr.setCell ⟨gn, z, none⟩ (.int .i64 (ia : Nat))) o).drew
      have M5 := M5'.step d5 (fun _ _ => id)
      have S5 := SJ.trans (s5'.trans (d5.mono fun _ hh => hh.elim))
      obtain ⟨-, -, d2n, d3n, -⟩ := M5.blk.cells4
      have k2n := M5.cellL hib
      rw [eg] at k2n
      have k3n := M5.cellR hib (by rw [hLb]) eg hlt
      rw [hLb, HZ.out] at k3n
      have Z0 : wr.drew.cell? ⟨q, 2, none⟩ = some (.slice (some ⟨gn, 0, none⟩) (n + 1) cn) ∧ wr.drew.cell? ⟨q, 3, none⟩ = some (.slice (some ⟨gl, 0, none⟩) LL.length cl) ∧ wr.drew.cell? ⟨gl, ib, none⟩ = some (.slice (some ⟨g, 0, none⟩) lb.length cap) ∧ wr.drew.cell? ⟨g, j, none⟩ = some (.int .i64 (z : Nat)) := ⟨d2, d3, k2, k3⟩
      clear MJ SJ M5' s5' d5
      go_wp2_with fail
      go_region_held (fun wx => wx.cell? ⟨q, 2, none⟩ = some (.slice (some ⟨gn, 0, none⟩) (n + 1) cn) ∧ wx.cell? ⟨q, 3, none⟩ = some (.slice (some ⟨gl, 0, none⟩) LL.length cl) ∧ wx.cell? ⟨gl, ib, none⟩ = some (.slice (some ⟨g, 0, none⟩) lb.length cap) ∧ wx.cell? ⟨g, j, none⟩ = some (.int .i64 (z : Nat))) (first | (with_reducible exact Z0) | (with_reducible exact ⟨d2n, d3n, k2n, k3n⟩)) (fail)
      all_goals
        clear d2n d3n k2n k3n Z0 k4 frn d0 d1 d2 d3 hf k2 k3
        go_wp2
        go_roundw
        case rel => (try ((repeat apply Exists.intro); refine ⟨?_, rfl⟩)); exact ⟨j + 1, by go_num, by omega, M5, S5⟩
        case measure => simp [intOf]; omega
    · obtain rfl : j = lb.length := by omega
      have hnI : ¬ ((lb.length : Int) < (lb.length : Int)) := by omega
      rw [List.take_length] at MJ
      have kA := MJ.cellL hia
      rw [ega] at kA
      have frl : ∀ j, wr.frozen? ⟨gl, j, none⟩ = false := fun j => MJ.rl.1.frozenAt j
      have Z0 : wr.drew.cell? ⟨q, 3, none⟩ = some (.slice (some ⟨gl, 0, none⟩) LL.length cl) ∧ wr.drew.cell? ⟨gl, ib, none⟩ = some (.slice (some ⟨g, 0, none⟩) lb.length cap) := ⟨d3, k2⟩
      have rowA : Row wr.drew o (R + 10 + ia) 3 1 (.slice (some ⟨ga, 0, none⟩) la.length capa) la.length (intsL la) := by
        have := MJ.rows ia hia
        rw [ega, hLa] at this
        exact this.step ((Step.refl (fun _ => False) wr o).drew) id
      have hnews : Hid (∀ j u, (intsL lb)[j]? = some u → wr.drew.cell? ((⟨g, 0, none⟩ : Addr).add j) = some u) := fun j u hu => by
        have hj : j < lb.length := by
          by_cases hj : j < lb.length
          · exact hj
          · rw [List.getElem?_eq_none (by rw [intsL_length]; omega)] at hu
            cases hu
        rw [intsL_get _ j hj] at hu
        injection hu with hu
        subst hu
        rw [show (⟨g, 0, none⟩ : Addr).add j = ⟨g, j, none⟩ by simp only [Addr.add]; split <;> simp_all]
        have := MJ.cellR hib (by rw [hLb]) eg hj
        rw [hLb] at this
        refine Eq.trans this ?_
        simp [List.getD, List.getElem?_eq_getElem hj]
      have h1c : Hid (∀ u, u ∈ intsL lb → u.oneCell' = true) := fun u hu => by
        simp [intsL] at hu
        obtain ⟨a, _, rfl⟩ := hu
        rfl
      have lbm : la.length + lb.length ≤ maxLen := by unfold maxLen; omega
      obtain ⟨ii, hii, hz0, hz1, hz2⟩ := info_parts infoInt
      clear HN
      go_wp2_with fail
      refine wp_region_held_drew (S := fun wx => wx.cell? ⟨q, 3, none⟩ = some (.slice (some ⟨gl, 0, none⟩) LL.length cl) ∧ wx.cell? ⟨gl, ib, none⟩ = some (.slice (some ⟨g, 0, none⟩) lb.length cap)) (by kernel_rfl) Z0 (fun hHeld => ?_)
      refine wpAnyH_take (i := 0) (v := ?v0) rfl (by kernel_rfl) (by kernel_rfl) (by kernel_rfl) (fun _ _ _ h => h) (Or.inl ⟨by rfl, ?hy0⟩) (by assumption) ?rest0
      case hy0 => (intro w hSw; (try dsimp only at hSw); go_simp; all_goals (with_reducible rfl))
      try simp only [Act.put, List.setIfInBounds_toArray, List.set_cons_zero, List.set_cons_succ]
      refine wpAnyH_take (i := 1) (v := ?v1) rfl (by kernel_rfl) (by kernel_rfl) (by kernel_rfl) (fun _ _ _ h => h) (Or.inl ⟨by rfl, ?hy1⟩) (by assumption) ?rest1
      case hy1 => (intro w hSw; (try dsimp only at hSw); go_simp; all_goals (with_reducible rfl))
      try simp only [Act.put, List.setIfInBounds_toArray, List.set_cons_zero, List.set_cons_succ]
      refine wpAnyH_take (i := 2) (v := ?v2) rfl (by kernel_rfl) (by kernel_rfl) (by kernel_rfl) (fun _ _ _ h => h) (Or.inl ⟨by rfl, ?hy2⟩) (by assumption) ?rest2
      case hy2 => (intro w hSw; (try dsimp only at hSw); go_simp; all_goals (with_reducible rfl))
      try simp only [Act.put, List.setIfInBounds_toArray, List.set_cons_zero, List.set_cons_succ]
      refine wpAnyH_take (i := 3) (v := ?v3) rfl (by kernel_rfl) (by kernel_rfl) (by kernel_rfl) (fun _ _ _ h => h) (Or.inl ⟨by rfl, ?hy3⟩) (by assumption) ?rest3
      case hy3 => (intro w hSw; (try dsimp only at hSw); go_simp; all_goals (with_reducible rfl))
      try simp only [Act.put, List.setIfInBounds_toArray, List.set_cons_zero, List.set_cons_succ]
      refine wpAnyH_take (i := 4) (v := ?v4) rfl (by kernel_rfl) (by kernel_rfl) (by kernel_rfl) (fun _ _ _ h => h) (Or.inl ⟨by rfl, ?hy4⟩) (by assumption) ?rest4
      case hy4 => (intro w hSw; (try dsimp only at hSw); go_simp; all_goals (with_reducible rfl))
      try simp only [Act.put, List.setIfInBounds_toArray, List.set_cons_zero, List.set_cons_succ]
      refine wpAnyH_take (i := 5) (v := ?v5) rfl (by kernel_rfl) (by kernel_rfl) (by kernel_rfl) (fun _ _ _ h => h) (Or.inl ⟨by rfl, ?hy5⟩) (by assumption) ?rest5
      case hy5 => (intro w hSw; (try dsimp only at hSw); go_simp; all_goals (with_reducible rfl))
      try simp only [Act.put, List.setIfInBounds_toArray, List.set_cons_zero, List.set_cons_succ]
      refine wpAnyH_take (i := 6) (v := ?v6) rfl (by kernel_rfl) (by kernel_rfl) (by kernel_rfl) (fun _ _ _ h => h) (Or.inl ⟨by rfl, ?hy6⟩) (by assumption) ?rest6
      case hy6 => (intro w hSw; (try dsimp only at hSw); go_simp; all_goals (with_reducible rfl))
      try simp only [Act.put, List.setIfInBounds_toArray, List.set_cons_zero, List.set_cons_succ]
      refine wpAnyH_take (i := 7) (v := ?v7) rfl (by kernel_rfl) (by kernel_rfl) (by kernel_rfl) (fun _ _ _ h => h) (Or.inl ⟨by rfl, ?hy7⟩) (by assumption) ?rest7
      case hy7 => (intro w hSw; (try dsimp only at hSw); go_simp; all_goals (with_reducible rfl))
      try simp only [Act.put, List.setIfInBounds_toArray, List.set_cons_zero, List.set_cons_succ]
      refine wpAnyH_take (i := 8) (v := ?v8) rfl (by kernel_rfl) (by kernel_rfl) (by kernel_rfl) (fun _ _ _ h => h) (Or.inl ⟨by rfl, ?hy8⟩) (by assumption) ?rest8
      case hy8 => (intro w hSw; (try dsimp only at hSw); go_simp; all_goals (with_reducible rfl))
      try simp only [Act.put, List.setIfInBounds_toArray, List.set_cons_zero, List.set_cons_succ]
      refine wpAnyH_take (i := 9) (v := ?v9) rfl (by kernel_rfl) (by kernel_rfl) (by kernel_rfl) (fun _ _ _ h => h) (Or.inl ⟨by rfl, ?hy9⟩) (by assumption) ?rest9
      case hy9 => (intro w hSw; (try dsimp only at hSw); go_simp; all_goals (with_reducible rfl))
      try simp only [Act.put, List.setIfInBounds_toArray, List.set_cons_zero, List.set_cons_succ]
      refine wpAnyH_take (i := 10) (v := ?v10) rfl (by kernel_rfl) (by kernel_rfl) (by kernel_rfl) (fun _ _ _ h => h) (Or.inl ⟨by rfl, ?hy10⟩) (by assumption) ?rest10
      case hy10 => (intro w hSw; (try dsimp only at hSw); go_simp; all_goals (with_reducible rfl))
      try simp only [Act.put, List.setIfInBounds_toArray, List.set_cons_zero, List.set_cons_succ]
      refine wpAnyH_take (i := 12) (v := ?v11) rfl (by kernel_rfl) (by kernel_rfl) (by kernel_rfl) (fun _ _ _ h => h) (Or.inl ⟨by rfl, ?hy11⟩) (by assumption) ?rest11
      case hy11 => (intro w hSw; (try dsimp only at hSw); go_simp; all_goals (with_reducible rfl))
      try simp only [Act.put, List.setIfInBounds_toArray, List.set_cons_zero, List.set_cons_succ]
      refine wpAnyH_take (i := 13) (v := ?v12) rfl (by kernel_rfl) (by kernel_rfl) (by kernel_rfl) (fun _ _ _ h => h) (Or.inl ⟨by rfl, ?hy12⟩) (by assumption) ?rest12
      case hy12 => (intro w hSw; (try dsimp only at hSw); go_simp; all_goals (with_reducible rfl))
      try simp only [Act.put, List.setIfInBounds_toArray, List.set_cons_zero, List.set_cons_succ]
      refine wpAnyH_take (i := 14) (v := ?v13) rfl (by kernel_rfl) (by kernel_rfl) (by kernel_rfl) (fun _ _ _ h => h) (Or.inl ⟨by rfl, ?hy13⟩) (by assumption) ?rest13
      case hy13 => (intro w hSw; (try dsimp only at hSw); go_simp; all_goals (with_reducible rfl))
      try simp only [Act.put, List.setIfInBounds_toArray, List.set_cons_zero, List.set_cons_succ]
      refine wpAnyH_take (i := 15) (v := ?v14) rfl (by kernel_rfl) (by kernel_rfl) (by kernel_rfl) (fun _ _ _ h => h) (Or.inl ⟨by rfl, ?hy14⟩) (by assumption) ?rest14
      case hy14 => (intro w hSw; (try dsimp only at hSw); go_simp; all_goals (with_reducible rfl))
      try simp only [Act.put, List.setIfInBounds_toArray, List.set_cons_zero, List.set_cons_succ]
      refine wpAnyH_take (i := 16) (v := ?v15) rfl (by kernel_rfl) (by kernel_rfl) (by kernel_rfl) (fun _ _ _ h => h) (Or.inl ⟨by rfl, ?hy15⟩) (by assumption) ?rest15
      case hy15 => (intro w hSw; (try dsimp only at hSw); go_simp; all_goals (with_reducible rfl))
      try simp only [Act.put, List.setIfInBounds_toArray, List.set_cons_zero, List.set_cons_succ]
      refine wpAnyH_take (i := 17) (v := ?v16) rfl (by kernel_rfl) (by kernel_rfl) (by kernel_rfl) (fun _ _ _ h => h) (Or.inl ⟨by rfl, ?hy16⟩) (by assumption) ?rest16
      case hy16 => (intro w hSw; (try dsimp only at hSw); go_simp; all_goals (with_reducible rfl))
      try simp only [Act.put, List.setIfInBounds_toArray, List.set_cons_zero, List.set_cons_succ]
      refine wpAnyH_take (i := 18) (v := ?v17) rfl (by kernel_rfl) (by kernel_rfl) (by kernel_rfl) (fun _ _ _ h => h) (Or.inl ⟨by rfl, ?hy17⟩) (by assumption) ?rest17
      case hy17 => (intro w hSw; (try dsimp only at hSw); go_simp; all_goals (with_reducible rfl))
      try simp only [Act.put, List.setIfInBounds_toArray, List.set_cons_zero, List.set_cons_succ]
      refine wpAnyH_ready (rs := [11]) (by kernel_rfl) (by simp) ?_
      refine AllReadyH.cons rfl (fun K hK => ?_) AllReadyH.nil
      go_simp
      refine hK.out _ _ Z0 (fun hHeld => ?_)
      clear hK K
      refine wpAnyH_ready (rs := [19]) (by kernel_rfl) (by simp) ?_
      refine AllReadyH.cons rfl (fun K hK => ?_) AllReadyH.nil
      refine step_append_lab rfl (.tmp 80) (.tmp 87) 60 rfl 3 ii (.int .i64 0) 1 8 Try.underlying60 hii hz0 hz1 hz2 rfl (by decide) o (R + 10 + ia) (.slice (some ⟨ga, 0, none⟩) la.length capa) la.length (intsL la) (by simp [Act.eval]) rowA ⟨g, 0, none⟩ lb.length cap (intsL lb) (by simp [Act.eval]) (by rw [intsL_length]; omega) hnews.out h1c.out hpb lbm (by omega) ?_
      intro g9 c9 w9 o9 r9 s9
      have t9 := ((Step.refl (fun k => k = R + 10 + ia) wr o).drew).trans s9
      have b9 := MJ.blk.step t9 (by omega)
      have rl9 := MJ.rl.step t9 (by omega)
      have hll := MJ.ll
      have hg9 : o9 gl = R + 6 := rl9.2 gl rfl
      have t10 := setStep (fun k => k = R + 6) w9 o9 ⟨gl, ia, none⟩ (.slice (some ⟨g9, 0, none⟩) (la.length + lb.length) c9) hg9
      have b10 := b9.step t10 (by omega)
      have rl10 := rl9.store ia (.slice (some ⟨g9, 0, none⟩) (la.length + lb.length) c9)
      have q9 := row_cellL rl9 hll hib
      have qa9 := row_cellL rl9 hll hia
      have q10 := row_cellL rl10 (by simp [hll]) hib
      rw [getD_set_other _ _ _ _ _ (Ne.symm hi), eg] at q10
      rw [eg] at q9
      rw [ega] at qa9
      obtain ⟨-, -, -, x9, -⟩ := b9.cells4
      obtain ⟨-, -, -, x10, -⟩ := b10.cells4
      have f9 : ∀ j, w9.frozen? ⟨gl, j, none⟩ = false := fun j => rl9.1.frozenAt j
      have f10 : ∀ j, (w9.setCell ⟨gl, ia, none⟩ (.slice (some ⟨g9, 0, none⟩) (la.length + lb.length) c9)).frozen? ⟨gl, j, none⟩ = false := fun j => rl10.1.frozenAt j
      have r9' : Row w9 o9 (R + 10 + ia) 3 1 (.slice (some ⟨g9, 0, none⟩) (la.length + lb.length) c9) (la ++ lb).length (intsL (la ++ lb)) := by
        rw [List.length_append, intsL_app3]
        exact r9
      obtain ⟨MZ, SZ⟩ := MJ.joined hia hib hi r9' t9
      have RES : Rx ((w9.setCell ⟨gl, ia, none⟩ (.slice (some ⟨g9, 0, none⟩) (la.length + lb.length) c9)).setCell ⟨gl, ib, none⟩ (.slice none 0 0)) o9 R q room n M free it (joinS S a b) pa vi (.slice (some ⟨gn, 0, none⟩) (n + 1) cn) (.slice (some ⟨gl, 0, none⟩) LL.length cl) its (told inL lb ia) ((ls.set ia (.slice (some ⟨g9, 0, none⟩) (la.length + lb.length) c9)).set ib (.slice none 0 0)) ((LL.set ia (la ++ lb)).set ib []) := by
        obtain ⟨h, ha, hb, hne⟩ := HX.out
        have eA := HLA.out
        have eB := HLB.out
        have hne' : S a ≠ S b := by rw [eA, eB]; exact hne
        have hin : ∀ k ∈ lb, k < inL.length := fun k hk => by
          have := (h.pl.mem b hb k (by rw [eB]; exact hk)).1.2.1
          have := h.ln
          omega
        have AR : Rf _ _ (R + 1) pa room n free := (((h.ar.step SJ (fun l hl => by have := hl.1; have := hl.2; omega)).step t9 (fun l hl => by have := hl.1; have := hl.2; omega)).step t10 (fun l hl => by have := hl.1; have := hl.2; omega)).step (setStep (fun k => k = R + 6) (w9.setCell ⟨gl, ia, none⟩ (.slice (some ⟨g9, 0, none⟩) (la.length + lb.length) c9)) o9 ⟨gl, ib, none⟩ (.slice none 0 0) hg9) (fun l hl => by have := hl.1; have := hl.2; omega)
        have el : ((LL.set ia (la ++ lb)).set ib []).length = LL.length := by simp
        have rp := h.rp.join h.pl ha hb (by rw [HTA.out, HTB.out]; exact hi)
        rw [HTA.out, HTB.out, eA, eB] at rp
        refine ⟨MZ.blk, AR, MZ.ri, MZ.li, MZ.rn, MZ.ln, MZ.rl, MZ.ll, MZ.rows, h.items, rp.cong (fun _ => Iff.rfl) (fun _ _ => rfl) (fun k _ => ?_), h.pl.join ha hb hne', h.small, by rw [el]; exact h.many, h.mny⟩
        exact told_get ia lb inL k hin
      have SRES := (SJ.mono (J := XL R) fun l hl => by unfold XL; omega).trans SZ
      refine hK.out _ _ ⟨x9, q9⟩ (fun hHeld => ?_)
      clear hK K
      try simp only [Act.put, List.setIfInBounds_toArray, List.set_cons_zero, List.set_cons_succ]
      refine wpAnyH_take (i := 20) (v := ?v30) rfl (by kernel_rfl) (by kernel_rfl) (by kernel_rfl) (fun _ _ _ h => h) (Or.inl ⟨by rfl, ?hy30⟩) (by assumption) ?rest30
      case hy30 => (intro w hSw; (try dsimp only at hSw); go_simp; all_goals (with_reducible rfl))
      try simp only [Act.put, List.setIfInBounds_toArray, List.set_cons_zero, List.set_cons_succ]
      refine wpAnyH_ready (rs := [21]) (by kernel_rfl) (by simp) ?_
      refine AllReadyH.cons rfl (fun K hK => ?_) AllReadyH.nil
      go_simp
      refine hK.out _ _ ⟨x10, q10⟩ (fun hHeld => ?_)
      clear hK K
      refine wpAnyH_done (by kernel_rfl) ?_ _
      clear MZ SZ r9' r9 rl10 rl9 b10 b9 t9 t10 s9 MJ SJ HX hHeld Z0 kA k2 d0 d1 d2 d3 hf frl x9 q9 qa9 f9
      go_wp2
      go_ret
      exact ⟨rfl, _, _, _, _, RES, SRES⟩
end
end Go.Proofs.Ythdmajddmajjoaa
