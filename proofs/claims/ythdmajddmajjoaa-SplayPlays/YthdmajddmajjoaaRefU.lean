/- The document's own forest: Split, two pieces. -/
import Derived.Test.YthdmajddmajjoaaRefT
namespace Go.Proofs.Ythdmajddmajjoaa
open Go.ChangeShapes Go.WideShapes Go.ChangeAt Go.RowKit
set_option linter.unusedVariables false
set_option linter.unusedSimpArgs false

theorem row_cellN {w : World} {o : Nat → Nat} {i0 gn cn m : Nat} {inL : List Nat} (r : Row w o i0 3 1 (.slice (some ⟨gn, 0, none⟩) m cn) m (intsL inL)) (ln : inL.length = m) {k : Nat} (hk : k < m) : w.cell? ⟨gn, k, none⟩ = some (.int .i64 (inL.getD k 0 : Nat)) := by
  obtain ⟨gn', _, eq, _, _, _, _, a3, _⟩ := r.pos (by omega)
  injection eq with eq _ _
  injection eq with eq
  injection eq with eq _ _
  subst eq
  rw [a3 k (by omega), intsL_get _ k (by omega)]
  simp [List.getD, List.getElem?_eq_getElem (show k < inL.length by omega)]
section
variable {w : World} {o : Nat → Nat} {R q room n M : Nat} {free : List Nat} {it : Nat → It} {S : Nat → List Nat} {pa : Nat} {vi vn vl : Value} {its : List It} {inL : List Nat} {ls : List Value} {LL : List (List Nat)}
set_option maxRecDepth 100000 in
set_option maxHeartbeats 2000000 in
theorem x_split_in (k : Nat) (A B : List Nat) (h : Rx w o R q room n M free it S pa vi vn vl its inL ls LL) (hk : Live n free k) (hs : S k = A ++ k :: B) (hA : A ≠ []) (hM : M < 5500000000000) :
    Calls Try.prog 24 #[.pointer (some ⟨q, 0, none⟩), .int .i64 (k : Nat)] w fun e w' => e = .returned (.int .i64 0) ∧ ∃ o' vl' inL' ls' LL', Rx w' o' R q room n (M + 1) free it (splitS S A k B) pa vi vn vl' its inL' ls' LL' ∧ Step (XL R) w o w' o' := by
  have c1 := x_rank_in k A B h hk hs
  have HC : Hid (∀ wx, Step (fun _ => False) w o wx o → Calls Try.prog 49 #[.pointer (some ⟨q, 0, none⟩), .int .i64 (k : Nat)] wx fun e w' => e = .returned (ls.getD (inL.getD k 0) (.slice none 0 0)) ∧ ∃ m, w' = wx.drewN m) := fun wx s => x_of k (h.step s (fun _ _ => id)) hk
  obtain ⟨gn, cn, gl, cl, rfl, rfl, n1, n2, l1, l2, -, hix, -, hLk⟩ := h.at hk
  obtain ⟨g, cap, eg, g1, g2, -⟩ := h.list hk
  have hlen := h.len hk
  rw [hs] at eg hLk g1 hlen
  have eN : (A ++ k :: B).length = A.length + (B.length + 1) := by simp
  rw [eN] at eg g1 hlen
  have hA0 : 0 < A.length := List.length_pos_iff.2 hA
  have hkI : (k : Int) < (n : Int) + 1 := by have := hk.2.1; omega
  have HN : Hid (∀ j, j < A.length → A.getD j 0 ≤ n) := fun j hj => by
    have := (h.pl.mem k hk A[j] (by rw [hs]; exact List.mem_append.2 (.inl (List.getElem_mem hj)))).1.2.1
    simpa [List.getD, List.getElem?_eq_getElem hj] using this
  have HX : Hid (Rx w o R q room n M free it S pa vi (.slice (some ⟨gn, 0, none⟩) (n + 1) cn) (.slice (some ⟨gl, 0, none⟩) LL.length cl) its inL ls LL ∧ Live n free k ∧ S k = A ++ k :: B) := ⟨h, hk, hs⟩
  have hmany : LL.length < 5500000000000 := by have := h.many; omega
  generalize hti : inL.getD k 0 = ix at *
  have HTI : Hid (inL.getD k 0 = ix) := hti
  rw [eg] at HC
  clear hti h hs hA
  have hixI : (ix : Int) < (LL.length : Int) := by omega
  have hA1 : ((A.length : Int) == 0) = false := by simp only [beq_eq_false_iff_ne, ne_eq]; omega
  obtain ⟨ii, hii, hz0, hz1, hz2⟩ := info_parts infoInt
  go_enter Try.func24, Try.ntmps24
  go_wp2_with fail
  refine c1.mono ?_
  rintro e w1 ⟨rfl, b1⟩
  have s1 : Step (fun _ => False) w o w1 o := Step.ofBelow' o b1
  have c2 := HC.out _ s1
  clear c1 b1 HC
  go_wp2_with fail
  refine c2.mono ?_
  rintro e w2 ⟨rfl, m, e2⟩
  have s2 : Step (fun _ => False) w o w2 o := s1.trans (by rw [e2]; exact (Step.refl _ w1 o).drewN m)
  clear e2 c2 s1
  have h2 := HX.out.1.step s2 (fun _ _ => id)
  have m2 := h2.rm
  have rk := m2.rows ix hix
  rw [eg, hLk, eN] at rk
  have nwA : Hid (∀ j u, (intsL A)[j]? = some u → w2.cell? ((⟨g, 0, none⟩ : Addr).add j) = some u) := by
    obtain ⟨ad, ead, hh⟩ := rk.newsHi A.length (by omega) hA0
    injection ead with ead
    subst ead
    intro j u hu
    refine hh j u ?_
    rw [Nat.mul_one, intsL_app3, List.take_left' (by rw [intsL_length])]
    exact hu
  have hoff : offA (some ⟨g, 0, none⟩) cap A.length 1 = some ⟨g, A.length, none⟩ := by
    unfold offA
    rw [if_neg (by omega)]
    simp only [Option.map_some, Addr.add]
    split <;> simp_all
  have one1 : ∀ l : List Nat, Hid (∀ u, u ∈ intsL l → u.oneCell' = true) := fun l u hu => by
    simp [intsL] at hu
    obtain ⟨a, _, rfl⟩ := hu
    rfl
  have HO := one1 A
  have HO2 := one1 (k :: B)
  have bA : 0 + A.length ≤ maxLen := by unfold maxLen; omega
  have bB : 0 + (B.length + 1) ≤ maxLen := by unfold maxLen; omega
  have hcA : A.length ≤ cap := by omega
  have hlA : (intsL A).length = A.length * 1 := by rw [intsL_length]; omega
  have hlB : (intsL (k :: B)).length = (B.length + 1) * 1 := by rw [intsL_length]; simp
  have hsub : A.length + (B.length + 1) - A.length = B.length + 1 := by omega
  clear one1
  go_wp2_with (first | (refine wpList_cutHi rfl 60 (.tmp 28) (.tmp 29) rfl 3 Try.underlying60 ii hii (some ⟨g, 0, none⟩) (A.length + (B.length + 1)) cap A.length rfl rfl hcA ?_) | (at_builtin; refine wpList_append_lab rfl (.tmp 27) (.tmp 30) 60 rfl 3 ii (.int .i64 0) 1 8 Try.underlying60 hii hz0 hz1 hz2 rfl (by decide) o (R + 10 + LL.length) _ 0 [] rfl (Row.nil _ _ _ _ _) ⟨g, 0, none⟩ A.length cap (intsL A) rfl hlA nwA.out HO.out hA0 bA (by omega) ?_) | go_in)
  intro g6 c6 w6 o6 r6 s6
  have rk6 := rk.step s6 (by omega)
  have nwB : Hid (∀ j u, (intsL (k :: B))[j]? = some u → w6.cell? ((⟨g, A.length, none⟩ : Addr).add j) = some u) := by
    obtain ⟨ad, ead, hh⟩ := rk6.newsLo A.length (by omega) (by omega)
    rw [hoff] at ead
    injection ead with ead
    subst ead
    intro j u hu
    refine hh j u ?_
    rw [Nat.mul_one, intsL_app3, List.drop_left' (by rw [intsL_length])]
    exact hu
  have hkl : A.length ≤ A.length + (B.length + 1) := by omega
  clear nwA HO rk rk6
  go_wp2_with (first | (refine wpList_cutLo rfl 60 (.tmp 33) (.tmp 34) rfl 3 Try.underlying60 ii hii 1 hz1 (some ⟨g, 0, none⟩) (A.length + (B.length + 1)) cap A.length rfl rfl hkl ?_; rw [hoff, hsub]) | (at_builtin; refine wpList_append_lab rfl (.tmp 32) (.tmp 35) 60 rfl 3 ii (.int .i64 0) 1 8 Try.underlying60 hii hz0 hz1 hz2 rfl (by decide) o6 (R + 10 + ix) _ 0 [] rfl (Row.nil _ _ _ _ _) ⟨g, A.length, none⟩ (B.length + 1) (cap - A.length) (intsL (k :: B)) rfl hlB nwB.out HO2.out (by omega) bB (by omega) ?_) | go_in)
  intro g8 c8 w8 o8 r8 s8
  have t8 : Step (fun x => x = R + 10 + ix ∨ x = R + 10 + LL.length) w2 o w8 o8 := (s6.mono fun _ hh => .inr hh).trans (s8.mono fun _ hh => .inl hh)
  have r6' := r6.step s8 (by omega)
  have el : (LL.set ix (k :: B)).length = LL.length := by simp
  obtain ⟨M9', s9'⟩ := m2.put1 (l2 := k :: B) hix (fun _ hh => hh) r8 t8
  have b8 := m2.blk.step t8 (by omega)
  have rn8 := m2.rn.step t8 (by omega)
  have rl8 := m2.rl.step t8 (by omega)
  obtain ⟨-, -, d2, d3, -⟩ := b8.cells4
  have k4 := row_cellN rn8 m2.ln (k := k) (by have := hk.2.1; omega)
  rw [HTI.out] at k4
  have fr : ∀ j, w8.frozen? ⟨gl, j, none⟩ = false := fun j => rl8.1.frozenAt j
  have k5 := row_cellL rl8 m2.ll hix
  rw [eg] at k5
  have d9 := (Step.refl (fun _ => False) (w8.setCell ⟨gl, ix, none⟩ (.slice (some ⟨g8, 0, none⟩) (B.length + 1) c8)) o8).drew
  have M9 := M9'.step d9 (fun _ _ => id)
  have r69 := (r6'.step s9' (by omega)).step d9 id
  have T9 : Step (XL R) w o (w8.setCell ⟨gl, ix, none⟩ (.slice (some ⟨g8, 0, none⟩) (B.length + 1) c8)).drew o8 := (((s2.mono fun _ hh => hh.elim).trans (t8.mono fun l hl => by unfold XL; omega)).trans (s9'.mono fun l hl => by unfold XL; omega)).trans (d9.mono fun _ hh => hh.elim)
  have AR9 := ((h2.ar.step t8 (fun l hl => by have := hl.1; have := hl.2; omega)).step s9' (fun l hl => by have := hl.1; have := hl.2; omega)).step d9 (fun _ _ => id)
  obtain ⟨-, -, d2n, d3n, -⟩ := M9.blk.cells4
  have k4n := M9.cellN (k := k) (by have := hk.2.1; omega)
  rw [HTI.out] at k4n
  have Z0 : w8.drew.cell? ⟨q, 3, none⟩ = some (.slice (some ⟨gl, 0, none⟩) LL.length cl) ∧ w8.drew.cell? ⟨q, 2, none⟩ = some (.slice (some ⟨gn, 0, none⟩) (n + 1) cn) ∧ w8.drew.cell? ⟨gn, k, none⟩ = some (.int .i64 (ix : Nat)) := ⟨d3, d2, k4⟩
  clear d9 M9' s9' r6' b8 rn8 rl8 t8 r8 s8 r6 s6 m2 h2 s2 nwB HO2
  go_wp2_with fail
  go_region_held (fun wx => wx.cell? ⟨q, 3, none⟩ = some (.slice (some ⟨gl, 0, none⟩) LL.length cl) ∧ wx.cell? ⟨q, 2, none⟩ = some (.slice (some ⟨gn, 0, none⟩) (n + 1) cn) ∧ wx.cell? ⟨gn, k, none⟩ = some (.int .i64 (ix : Nat))) (first | (with_reducible exact Z0) | (with_reducible exact ⟨d3n, d2n, k4n⟩)) (fail)
  all_goals
    clear d2 d3 k4 k5 fr d2n d3n k4n Z0
    generalize (w8.setCell ⟨gl, ix, none⟩ (.slice (some ⟨g8, 0, none⟩) (B.length + 1) c8)).drew = w9 at *
    obtain ⟨hc6, hc6m⟩ := r69.caps hA0
    go_wp2
    go_loopw [10] (fun v wr => ∃ j : Nat, v = .int .i64 (j : Nat) ∧ j ≤ A.length ∧ Rm wr o8 R q (n + 1) pa vi (.slice (some ⟨gn, 0, none⟩) (n + 1) cn) (.slice (some ⟨gl, 0, none⟩) LL.length cl) its (told inL (A.take j) LL.length) (ls.set ix (.slice (some ⟨g8, 0, none⟩) (B.length + 1) c8)) (LL.set ix (k :: B)) ∧ Step (fun k => k = R + 5) w9 o8 wr o8) (fun v _ => A.length - (intOf v).toNat)
    case atStart => exact ⟨0, by go_num, by omega, M9, Step.refl _ _ _⟩
    case round =>
      obtain ⟨j, rfl, hj, MJ, SJ⟩ := hrel
      clear M9
      obtain ⟨d0, d1, d2, d3, hf⟩ := MJ.blk.cells4
      have rA := r69.step SJ (by omega)
      by_cases hlt : j < A.length
      · have hjI : (j : Int) < (A.length : Int) := by omega
        have hz := HN.out j hlt
        have k3 := row_cellN rA rfl hlt
        have HG : Hid (told inL (A.take (j + 1)) LL.length = (told inL (A.take j) LL.length).set (A.getD j 0) LL.length) := by
          rw [← told_snoc, List.take_succ_eq_append_getElem hlt]
          simp [Hid, List.getD, List.getElem?_eq_getElem hlt]
        obtain ⟨z, hzz⟩ : ∃ z, z = A.getD j 0 := ⟨_, rfl⟩
        have HZ : Hid (A.getD j 0 = z) := hzz.symm
        rw [← hzz] at HG hz k3
        clear hzz
        have hzI : (z : Int) < (n : Int) + 1 := by omega
        have k4 := MJ.cellN (k := z) (by omega)
        generalize (told inL (A.take j) LL.length).getD z 0 = zo at k4
        have frn : ∀ j, wr.frozen? ⟨gn, j, none⟩ = false := fun j => MJ.rn.1.frozenAt j
        obtain ⟨M5', s5'⟩ := MJ.inn z LL.length
        rw [← HG.out] at M5'
        have d5 := (Step.refl (fun _ => False) (wr.setCell ⟨gn, z, none⟩ (.int .i64 (LL.length : Nat))) o8).drew
        have M5 := M5'.step d5 (fun _ _ => id)
        have S5 := SJ.trans (s5'.trans (d5.mono fun _ hh => hh.elim))
        obtain ⟨-, -, d2n, d3n, -⟩ := M5.blk.cells4
        have k3n := row_cellN (r69.step S5 (by omega)) rfl hlt
        rw [HZ.out] at k3n
        have Z0 : wr.drew.cell? ⟨q, 2, none⟩ = some (.slice (some ⟨gn, 0, none⟩) (n + 1) cn) ∧ wr.drew.cell? ⟨q, 3, none⟩ = some (.slice (some ⟨gl, 0, none⟩) LL.length cl) ∧ wr.drew.cell? ⟨g6, j, none⟩ = some (.int .i64 (z : Nat)) := ⟨d2, d3, k3⟩
        clear MJ SJ M5' s5' d5 rA
        go_wp2_with fail
        go_region_held (fun wx => wx.cell? ⟨q, 2, none⟩ = some (.slice (some ⟨gn, 0, none⟩) (n + 1) cn) ∧ wx.cell? ⟨q, 3, none⟩ = some (.slice (some ⟨gl, 0, none⟩) LL.length cl) ∧ wx.cell? ⟨g6, j, none⟩ = some (.int .i64 (z : Nat))) (first | (with_reducible exact Z0) | (with_reducible exact ⟨d2n, d3n, k3n⟩)) (fail)
        all_goals
          clear d2n d3n k3n Z0 k4 frn d0 d1 d2 d3 hf k3
          go_wp2
          go_roundw
          case rel => (try ((repeat apply Exists.intro); refine ⟨?_, rfl⟩)); exact ⟨j + 1, by go_num, by omega, M5, S5⟩
          case measure => simp [intOf]; omega
      · obtain rfl : j = A.length := by omega
        have hnI : ¬ ((A.length : Int) < (A.length : Int)) := by omega
        rw [List.take_length] at MJ
        obtain ⟨L9, hL9⟩ : ∃ L9, L9 = LL.set ix (k :: B) := ⟨_, rfl⟩
        have HL9 : Hid (L9 = LL.set ix (k :: B)) := hL9
        rw [← hL9] at MJ el
        clear hL9
        have sO := allocStep (fun _ => False) wr o8 (.cells #[.slice (some ⟨g6, 0, none⟩) A.length c6] 60)
        have rlO := MJ.rl.step sO id
        have rv := rA.step sO id
        rw [el] at rlO
        rw [← el] at rv
        obtain ⟨il, hil, hzl0, hzl1, hzl2⟩ := info_parts infoSl3
        have bb : LL.length + 1 ≤ maxLen := by unfold maxLen; omega
        go_wp2_with (first | (at_builtin; refine wpList_append_lab rfl (.tmp 73) (.tmp 75) 32 rfl 60 il (.slice none 0 0) 1 24 Try.underlying32 hil hzl0 hzl1 hzl2 rfl (by decide) o8 (R + 6) _ LL.length _ rfl rlO ⟨wr.heap.size, 0, none⟩ 1 1 [.slice (some ⟨g6, 0, none⟩) A.length c6] rfl rfl (new_one_at (by simp) _ _) (by intro u hu; simp at hu; subst hu; rfl) (by decide) bb (by omega) ?_) | go_in)
        intro gZ cZ wZ oZ rZ sZ
        rw [← el] at rZ
        obtain ⟨MZ, SZ⟩ := MJ.pushed (by omega) (sO.mono fun _ hh => hh.elim) rv rZ sZ
        have bZ := (MJ.blk.step sO id).step sZ (by omega)
        have AZ := ((((AR9.step SJ (fun l hl => by have := hl.1; have := hl.2; omega)).step sO (fun _ _ => id)).step sZ (fun l hl => by have := hl.1; have := hl.2; omega))).step (setStep (fun l => l = R) wZ oZ ⟨q, 3, none⟩ (.slice (some ⟨gZ, 0, none⟩) (L9.length + 1) cZ) bZ.2) (fun l hl => by have := hl.1; have := hl.2; omega)
        obtain ⟨e0, e1, e2, e3, ef⟩ := bZ.cells4
        have RES : Rx (wZ.setCell ⟨q, 3, none⟩ (.slice (some ⟨gZ, 0, none⟩) (L9.length + 1) cZ)) oZ R q room n (M + 1) free it (splitS S A k B) pa vi (.slice (some ⟨gn, 0, none⟩) (n + 1) cn) (.slice (some ⟨gZ, 0, none⟩) (L9.length + 1) cZ) its (told inL A LL.length) (ls.set ix (.slice (some ⟨g8, 0, none⟩) (B.length + 1) c8) ++ [.slice (some ⟨g6, 0, none⟩) A.length c6]) (L9 ++ [A]) := by
          obtain ⟨h, hkk, hss⟩ := HX.out
          have hin : ∀ x ∈ A, x < inL.length := fun x hx => by
            have := (h.pl.mem k hkk x (by rw [hss]; exact List.mem_append.2 (.inl hx))).1.2.1
            have := h.ln
            omega
          have rp := h.rp.split h.pl hkk hss
          rw [HTI.out, ← HL9.out] at rp
          exact ⟨MZ.blk, AZ, MZ.ri, MZ.li, MZ.rn, MZ.ln, MZ.rl, MZ.ll, MZ.rows, h.items, rp.cong (fun _ => Iff.rfl) (fun _ _ => rfl) (fun x _ => told_get LL.length A inL x hin), h.pl.split hkk hss, h.small, by simp; have := h.many; omega, by omega⟩
        have SRES := (T9.trans (SJ.mono (J := XL R) fun l hl => by unfold XL; omega)).trans SZ
        rw [el] at RES SRES
        clear MZ SZ rZ sZ bZ AZ MJ SJ rA rlO rv sO HX AR9 T9 r69
        go_wp2
        go_ret
        exact ⟨rfl, _, _, _, _, _, RES, SRES⟩
end
end Go.Proofs.Ythdmajddmajjoaa
