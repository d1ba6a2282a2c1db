/- The law LexJoins, walked. -/
import Derived.Test.YtgebhhfliphpdaaDoorAloneWalk
import Derived.Test.YtgebhhfliphpdaaDoorLexK
namespace Go.Proofs.YtgebhhfliphpdaaDoor
open Go.ChangeShapes Go.WideShapes Go.ChangeAt Go.RowKit
set_option linter.unusedVariables false

/-- What is read of one token, whatever new block there is. -/
theorem Tks.atA {w : World} {ao : Option Addr} {n cap : Nat} {ts : List Tk} (h : Tks w (.slice ao n cap) ts) (i : Nat) (hi : i < ts.length) : ∃ g, ao = some ⟨g, 0, none⟩ ∧ n = ts.length ∧ ∀ o : Obj,
    (w.alloc o).cell? ⟨g, i * 4, none⟩ = some (.int .i64 ((ts[i]).k : Nat)) ∧ (w.alloc o).cell? ⟨g, i * 4 + 1, none⟩ = some (.int .i64 (ts[i]).n) ∧ (w.alloc o).cell? ⟨g, i * 4 + 2, none⟩ = some (.string ⟨(ts[i]).t.toArray⟩) ∧ (w.alloc o).cell? ⟨g, i * 4 + 3, none⟩ = some (.int .i64 ((ts[i]).a : Nat)) := by
  have h' := h
  obtain ⟨ao', cap', e, hx⟩ := h'
  injection e with e1 e2 e3
  subst e1 e2 e3
  obtain ⟨g, rfl, hlt, hc⟩ := hx (by omega)
  refine ⟨g, rfl, rfl, fun o => ?_⟩
  obtain ⟨g', c', e, p⟩ := (h.below (b1 w o)).at i hi
  injection e with e1 _ _
  injection e1 with e1
  injection e1 with e1
  subst e1
  exact p
theorem Tks.len {w : World} {v : Value} {ts : List Tk} (h : Tks w v ts) : ∃ ao cap, v = .slice ao ts.length cap := by
  obtain ⟨ao, cap, h, _⟩ := h
  exact ⟨ao, cap, h⟩
set_option maxRecDepth 100000 in
set_option maxHeartbeats 2000000 in
theorem joins_walk (s m : ByteArray) (w : World) (hs : s.size ≤ maxLen) (hm : m.size ≤ maxLen) (hW : Wd w) (hE : Ers w) :
    Calls Tryd.prog 7 #[.string s, .string m] w fun e w' => e = .returned (.bool true) ∧ Below w.heap.size w w' := by
  have HL : Hid (s.data.toList.length = s.size ∧ m.data.toList.length = m.size) := ⟨data_len s, data_len m⟩
  go_enter Tryd.func7, Tryd.ntmps7
  go_wp2_with fail
  refine (awake_c w hW hE).mono ?_
  rintro e w1 ⟨rfl, hb1⟩
  go_wp2_with fail
  refine (scan_c s w1 (hW.below hb1) (hE.below hb1) hs).mono ?_
  rintro e w2 ⟨v2, er2, at2, rfl, ho2, hb2⟩
  have B2 := hb1.trans (hb2.mono hb1.size)
  clear hb1 hb2
  go_wp2_with fail
  refine (scan_c m w2 (hW.below B2) (hE.below B2) hm).mono ?_
  rintro e w3 ⟨v3, er3, at3, rfl, ho3, hb3⟩
  have B3 := B2.trans (hb3.mono B2.size)
  cases hR : scanA s.data.toList with
  | inl eq =>
    obtain ⟨e, q⟩ := eq
    obtain ⟨rfl, rfl, rfl⟩ := ho2.inl hR
    have he : ((e : Int) != 0) = true := by have := scan_err_pos hR; simp; omega
    have he2 : ¬ (e : Int) = 0 := by have := scan_err_pos hR; omega
    clear ho2 ho3 hR hb3 B2
    go_wp2
    go_ret
    exact ⟨rfl, B3⟩
  | inr ts =>
    obtain ⟨rfl, rfl, hr2⟩ := ho2.inr hR
    cases hQ : scanA m.data.toList with
    | inl eq =>
      obtain ⟨e, q⟩ := eq
      obtain ⟨rfl, rfl, rfl⟩ := ho3.inl hQ
      have he : ((e : Int) != 0) = true := by have := scan_err_pos hQ; simp; omega
      have he2 : ¬ (e : Int) = 0 := by have := scan_err_pos hQ; omega
      clear ho2 ho3 hR hb3 B2 hr2 hQ
      go_wp2
      go_ret
      exact ⟨rfl, B3⟩
    | inr us =>
      obtain ⟨rfl, rfl, hr3⟩ := ho3.inr hQ
      have hl := scan_ok hR
      have hl2 := scan_ok hQ
      rw [HL.out.1] at hl
      rw [HL.out.2] at hl2
      have T2 := (Tks.of hr2).below hb3
      have T3 := Tks.of hr3
      obtain ⟨ao2, cap2, rfl⟩ := T2.len
      obtain ⟨ao3, cap3, rfl⟩ := T3.len
      have W3 := hW.below B3
      have E3 := hE.below B3
      by_cases hlen : s.size + m.size < 2000
      · have hlI : ¬ (2000 : Int) ≤ (s.size : Int) + (m.size : Int) := by omega
        obtain ⟨vs, hv, hj⟩ := scan_joins hR hQ (by rw [HL.out.1, HL.out.2]; exact hlen)
        rw [HL.out.1] at hj hv
        have hn2 : ts.length = vs.length + 1 := by rw [hv]; simp
        have HJ : Hid (scanA (s.data.toList ++ 32 :: m.data.toList) = .inr (vs ++ us.map (mvT (s.size + 1))) ∧ ts = vs ++ [⟨0, 0, [], s.size⟩]) := ⟨hj, hv⟩
        have HB : Hid (ts.length ≤ 2001 ∧ us.length ≤ 2001 ∧ ∀ x, x ∈ us → x.a ≤ m.size) := ⟨hl.2.2.1, hl2.2.2.1, hl2.2.2.2.2.2⟩
        have htl := hl.2.2.1
        have hul := hl2.2.2.1
        have HN2 := Lib.hid hn2
        have hup := hl2.2.2.2.2.1
        clear ho2 ho3 hR hQ hb3 B2 hr2 hr3 hj hv hn2 hl hl2
        obtain ⟨nT, hnT⟩ : ∃ n, n = ts.length := ⟨_, rfl⟩
        obtain ⟨nU, hnU⟩ : ∃ n, n = us.length := ⟨_, rfl⟩
        have HNT : Hid (nT = ts.length ∧ nU = us.length) := ⟨hnT, hnU⟩
        have htp : 0 < nT := by have := HN2.out; omega
        rw [← hnT] at T2 htl ⊢
        rw [← hnU] at T3 hul hup ⊢
        clear hnT hnU
        have hts0 : ((nT : Int) == 0) = false := by simp; omega
        have hus0 : ((nU : Int) == 0) = false := by simp; omega
        have hts1 : ¬ (nT : Int) = 0 := by omega
        have hus1 : ¬ (nU : Int) = 0 := by omega
        go_wp2_with fail
        refine (scan_c _ w3 W3 E3 ?hsz).mono ?_
        case hsz =>
          rw [app_size, app_size]
          show s.size + 1 + m.size ≤ maxLen
          unfold maxLen
          omega
        rintro e w4 ⟨v4, er4, at4, rfl, ho4, hb4⟩
        rw [app_list, app_list, List.append_assoc] at ho4
        change ScanOut w3 w4 v4 er4 at4 (scanA (s.data.toList ++ 32 :: m.data.toList)) at ho4
        obtain ⟨rfl, rfl, hr4⟩ := ho4.inr HJ.out.1
        have T4 := Tks.of hr4
        obtain ⟨ns, hns⟩ : ∃ ns, ns = vs ++ us.map (mvT (s.size + 1)) := ⟨_, rfl⟩
        rw [← hns] at T4
        have HNS := Lib.hid hns
        obtain ⟨ao4, cap4, rfl⟩ := T4.len
        obtain ⟨nN, hnN⟩ : ∃ n, n = ns.length := ⟨_, rfl⟩
        have HNN := Lib.hid hnN
        rw [← hnN] at T4 ⊢
        have hnl : nN = nT - 1 + nU := by
          have := HN2.out
          have := HNT.out
          rw [hnN, hns]
          simp
          omega
        have hnlI : (nN : Int) = (nT : Int) - 1 + (nU : Int) := by omega
        have T2' := T2.below hb4
        have T3' := T3.below hb4
        have B4 := B3.trans (hb4.mono B3.size)
        have HT : Hid (Tks w4 (.slice ao2 nT cap2) ts ∧ Tks w4 (.slice ao3 nU cap3) us ∧ Tks w4 (.slice ao4 nN cap4) ns) := ⟨T2', T3', T4⟩
        have HLN := Lib.hid hnl
        have hNb : nN ≤ 4002 := by omega
        clear ho4 hr4 hns T2 T3 B3 W3 E3 hb4 T2' T3' T4 hnN hnl
        go_wp2_with fail
        clear hnlI
        go_loopw [16] (fun v wr => ∃ i : Nat, v = .int .i64 (i : Nat) ∧ i ≤ nN ∧ Below w4.heap.size w4 wr) (fun v _ => nN - (intOf v).toNat)
        case atStart => exact ⟨0, by go_num, by omega, b0 _⟩
        case round =>
          obtain ⟨i, rfl, hi, hbr⟩ := hrel
          by_cases hlt : i < nN
          · have hiI : (i : Int) < (nN : Int) := by omega
            obtain ⟨T2, T3, T4⟩ := HT.out
            have hnn := HNN.out
            have hnt := HNT.out
            have hvl := HN2.out
            have hbw := B4.trans (hbr.mono B4.size)
            obtain ⟨g4, rfl, -, c4⟩ := (T4.below hbr).atA i (by omega)
            by_cases hlo : i < nT - 1
            · obtain ⟨g2, rfl, -, c2⟩ := (T2.below hbr).atA i (by omega)
              have hloI : (i : Int) < (nT : Int) - 1 := by omega
              have hei : ns[i]'(by omega) = ts[i]'(by omega) := by
                have e1 := HNS.out
                have e2 := HJ.out.2
                subst e1
                simp only [e2]
                rw [List.getElem_append_left (by omega), List.getElem_append_left (by omega)]
              rw [hei] at c4
              generalize ts[i]'(by omega) = x at c2 c4
              obtain ⟨xk, xn, xt, xa⟩ := x
              simp only at c2 c4
              generalize (⟨xt.toArray⟩ : ByteArray) = tx at c2 c4
              have d0 := fun o => (c2 o).1
              have d1 := fun o => (c2 o).2.1
              have d2 := fun o => (c2 o).2.2.1
              have d3 := fun o => (c2 o).2.2.2
              have f0 := fun o => (c4 o).1
              have f1 := fun o => (c4 o).2.1
              have f2 := fun o => (c4 o).2.2.1
              have f3 := fun o => (c4 o).2.2.2
              clear c2 c4 hei T2 T3 T4 hnn hnt hvl
              go_wp2
              go_quiet (fail)
              rename_i nq
              go_wp2
              go_roundw
              case rel => (try ((repeat apply Exists.intro); refine ⟨?_, rfl⟩)); exact ⟨i + 1, by go_num, by omega, bdr (hbr.trans ((b1 _ _).mono hbr.size)) _⟩
              case measure => simp [intOf]; omega
            · obtain ⟨j, hj⟩ : ∃ j, j = i - (nT - 1) := ⟨_, rfl⟩
              have hju : j < us.length := by have := HLN.out; omega
              obtain ⟨g3, rfl, -, c3⟩ := (T3.below hbr).atA j hju
              have hloI : ¬ (i : Int) < (nT : Int) - 1 := by omega
              have hidx : (i : Int) - (nT : Int) + 1 = (j : Int) := by omega
              have hjI : (j : Int) < (nU : Int) := by have := HLN.out; omega
              have hei : ns[i]'(by omega) = mvT (s.size + 1) (us[j]'hju) := by
                have e1 := HNS.out
                subst e1
                rw [List.getElem_append_right (by omega), List.getElem_map]
                congr 2
                omega
              have hxb := HB.out.2.2 _ (List.getElem_mem hju)
              rw [hei] at c4
              generalize us[j]'hju = x at c3 c4 hxb
              obtain ⟨xk, xn, xt, xa⟩ := x
              simp only [mvT] at c3 c4 hxb
              generalize (⟨xt.toArray⟩ : ByteArray) = tx at c3 c4
              have d0 := fun o => (c3 o).1
              have d1 := fun o => (c3 o).2.1
              have d2 := fun o => (c3 o).2.2.1
              have d3 := fun o => (c3 o).2.2.2
              have f0 := fun o => (c4 o).1
              have f1 := fun o => (c4 o).2.1
              have f2 := fun o => (c4 o).2.2.1
              have f3 : ∀ o, (wr.alloc o).cell? ⟨g4, i * 4 + 3, none⟩ = some (.int .i64 ((xa : Int) + ((s.size : Int) + 1))) := fun o => by rw [(c4 o).2.2.2]; simp
              clear c3 c4 hei T2 T3 T4 hnn hnt hvl hj
              go_wp2
              go_quiet (fail)
              rename_i nq
              go_wp2
              go_roundw
              case rel => (try ((repeat apply Exists.intro); refine ⟨?_, rfl⟩)); exact ⟨i + 1, by go_num, by omega, bdr (hbr.trans ((b1 _ _).mono hbr.size)) _⟩
              case measure => simp [intOf]; omega
          · obtain rfl : i = nN := by omega
            go_wp2
            go_ret
            exact ⟨rfl, B4.trans (hbr.mono B4.size)⟩
      · have hlI : (2000 : Int) ≤ (s.size : Int) + (m.size : Int) := by omega
        clear ho2 ho3 hR hb3 B2 hr2 hr3 hQ T2 T3
        have hwI : IntKind.i64.wrap ((s.size : Int) + (m.size : Int)) = (s.size : Int) + (m.size : Int) := by rw [IntKind.wrap_i64]; omega
        go_wp2
        go_ret
        exact ⟨rfl, B3⟩
end Go.Proofs.YtgebhhfliphpdaaDoor
