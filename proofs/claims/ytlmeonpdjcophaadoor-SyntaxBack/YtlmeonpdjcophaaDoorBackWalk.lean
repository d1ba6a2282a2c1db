/- The law SyntaxBack, walked. -/
import Derived.Test.YtlmeonpdjcophaaDoorBracketsWalk
import Derived.Test.YtlmeonpdjcophaaDoorMovB
import Derived.Test.YtlmeonpdjcophaaDoorPrtF
import Derived.Test.YtlmeonpdjcophaaDoorRefSame
namespace Go.Proofs.YtlmeonpdjcophaaDoor
open Go.ChangeShapes Go.WideShapes Go.ChangeAt Go.RowKit
set_option linter.unusedVariables false
set_option linter.unusedSimpArgs false

set_option maxRecDepth 100000 in
set_option maxHeartbeats 8000000 in
theorem back_walk (e : Ex) (ao : Option Addr) (cap : Nat) (s : ByteArray) (byI : Int) (w : World) (hl : e.kids.len ≤ maxLen) (hwd : e.kids.wide) (hf : e.kids.size ≤ 100000000 → e.fit) (S : SlA w e.kids ao) (hb0 : -9223372036854775808 ≤ byI) (hb1 : byI ≤ 9223372036854775807) (hs : s.size ≤ 140737488351232) (FX : FixA w) :
    Calls Tryd.prog 4 #[exV e ao cap, .string s, .int .i64 byI] w fun x w' => x = .returned (.bool true) ∧ Below w.heap.size w w' := by
  have B1 : Below w.heap.size w (w.alloc (.cells #[.int .i64 e.k, .int .i64 e.n, stv e.nm, .slice ao e.kids.len cap, .int .i64 e.a] 24)) := (Below.refl _ w).alloc (Nat.le_refl _) _
  have Xe : (w.alloc (.cells #[.int .i64 e.k, .int .i64 e.n, stv e.nm, .slice ao e.kids.len cap, .int .i64 e.a] 24)).heap[w.heap.size]? = some (.cells #[.int .i64 e.k, .int .i64 e.n, stv e.nm, .slice ao e.kids.len cap, .int .i64 e.a] 24) := heap_alloc_new w _
  have Se := SlA.below S B1
  have FX1 := FX.below B1
  rw [exV_out]
  go_enter Tryd.func4, Tryd.ntmps4
  go_upto_region 1 with fail
  generalize w.alloc (.cells #[.int .i64 e.k, .int .i64 e.n, stv e.nm, .slice ao e.kids.len cap, .int .i64 e.a] 24) = w1 at *
  obtain ⟨bqe, hbe⟩ : ∃ b, b = w.heap.size := ⟨_, rfl⟩
  rw [← hbe] at Xe ⊢
  clear hbe S
  obtain ⟨ec0, ec1, ec2, ec3, ec4, ecf⟩ := box5 Xe
  have c := heavy_r e ao cap w1 hl hwd Se
  rw [exV_out] at c
  go_wp2_with fail
  refine c.mono ?_
  rintro x0 w2 ⟨rfl, bw⟩
  clear c
  clear ec0 ec1 ec2 ec3 ec4 ecf
  have B2 := B1.trans (bw.mono B1.size)
  have FX2 := FX1.below bw
  have Se := SlA.below Se bw
  have Xe := (bw.block _ (lt_of_block Xe)).trans Xe
  clear bw B1 FX1
  cases hv : heavyB e with
  | true =>
    go_wp2
    go_ret
    exact ⟨rfl, B2⟩
  | false =>
  have hz := light hv
  have fe := hf (by omega)
  clear hv hf hl hwd
  have c := awake_r w2 FX2
  go_wp2_with fail
  refine c.mono ?_
  rintro x0 w3 ⟨rfl, bw⟩
  clear c
  have B3 := B2.trans (bw.mono B2.size)
  have FX3 := FX2.below bw
  have Se := SlA.below Se bw
  have Xe := (bw.block _ (lt_of_block Xe)).trans Xe
  clear bw B2 FX2
  obtain ⟨T, hT⟩ : ∃ T, T = writA e := ⟨_, rfl⟩
  have HT : Hid (T = writA e) := hT
  obtain ⟨fi, hfi⟩ : ∃ fi : Int, fi = if T.isSome then 0 else 122 := ⟨_, rfl⟩
  obtain ⟨tt, htt⟩ : ∃ tt, tt = T.getD [] := ⟨_, rfl⟩
  obtain ⟨rb, hrb⟩ : ∃ rb, rb = T.isSome := ⟨_, rfl⟩
  obtain ⟨ec0, ec1, ec2, ec3, ec4, ecf⟩ := box5 Xe
  have c := print_r e ao cap w3 fe FX3.fx Se
  unfold PostP at c
  rw [← hT, exV_out, ← htt, ← hfi] at c
  have HF : Hid (fi = if T.isSome then 0 else 122) := hfi
  have HTT : Hid (tt = T.getD []) := htt
  have HRB : Hid (rb = T.isSome) := hrb
  clear hfi htt
  go_wp2_with fail
  refine c.mono ?_
  rintro x0 w4 ⟨rfl, bw⟩
  clear c
  clear ec0 ec1 ec2 ec3 ec4 ecf
  have B4 := B3.trans (bw.mono B3.size)
  have FX4 := FX3.below bw
  have Se := SlA.below Se bw
  have Xe := (bw.block _ (lt_of_block Xe)).trans Xe
  clear bw B3 FX3
  obtain ⟨ec0, ec1, ec2, ec3, ec4, ecf⟩ := box5 Xe
  have c := right_r e ao cap w4 fe FX4.fx Se
  rw [← hT, exV_out, ← hrb] at c
  clear hT hrb
  go_wp2_with fail
  refine c.mono ?_
  rintro x0 w5 ⟨rfl, bw⟩
  clear c
  clear ec0 ec1 ec2 ec3 ec4 ecf
  have B5 := B4.trans (bw.mono B4.size)
  have FX5 := FX4.below bw
  have Se := SlA.below Se bw
  have Xe := (bw.block _ (lt_of_block Xe)).trans Xe
  clear bw B4 FX4
  go_upto_region 6 with fail
  go_cut [63] (fun v wx => v = .bool false ∧ wx = w5)
  case first =>
    cases hT : T with
    | none =>
      have e1 : fi = 122 := by rw [HF.out, hT]; rfl
      have e2 : tt = [] := by rw [HTT.out, hT]; rfl
      have e3 : rb = false := by rw [HRB.out, hT]; rfl
      subst e1 e2 e3
      clear HF HTT HRB hT HT
      go_wp2
      go_meet
      exact ⟨rfl, rfl⟩
    | some t =>
      have e1 : fi = 0 := by rw [HF.out, hT]; rfl
      have e2 : tt = t := by rw [HTT.out, hT]; rfl
      have e3 : rb = true := by rw [HRB.out, hT]; rfl
      have hlt := (print_parse fe (by rw [← HT.out, hT])).1
      have hltI : ¬ (2000 : Int) < (t.length : Int) := by omega
      subst e1 e2 e3
      clear HF HTT HRB hT HT
      go_wp2
      go_meet
      exact ⟨rfl, rfl⟩
  case rest =>
  obtain ⟨rfl, hwx⟩ := hcut
  rw [hwx]
  clear hwx
  go_upto_if 65 with fail
  go_cut [1] (fun v wx => v = .string s ∧ Below w.heap.size w wx)
  case first =>
    cases hT : T with
    | none =>
      have e1 : fi = 122 := by rw [HF.out, hT]; rfl
      subst e1
      clear HF HTT HRB hT HT
      go_wp2
      go_meet
      exact ⟨rfl, B5⟩
    | some t =>
      have e1 : fi = 0 := by rw [HF.out, hT]; rfl
      have e2 : tt = t := by rw [HTT.out, hT]; rfl
      have hWT : writA e = some t := by rw [← HT.out, hT]
      obtain ⟨hlt, x, t2, hP, hsx⟩ := print_parse fe hWT
      subst e1 e2
      clear HF HTT HRB hT HT
      have okx := parse_okT hP
      have c := parse_a ⟨tt.toArray⟩ w5 FX5 (by rw [size_mk]; unfold maxLen; omega)
      have et : (ByteArray.mk tt.toArray).data.toList = tt := by simp
      rw [et, hP] at c
      clear et hP
      go_wp2_with fail
      refine c.mono ?_
      rintro x0 w6 ⟨ax, cx, rfl, SN, bw⟩
      clear c
      have Sx := Sl.all SN
      clear SN
      have B6 := B5.trans (bw.mono B5.size)
      have FX6 := FX5.below bw
      have Se := SlA.below Se bw
      have Xe := (bw.block _ (lt_of_block Xe)).trans Xe
      clear bw B5 FX5
      have bw : Below w6.heap.size w6 (w6.alloc (.cells #[.int .i64 x.k, .int .i64 x.n, stv x.nm, .slice ax x.kids.len cx, .int .i64 x.a] 24)) := (Below.refl _ w6).alloc (Nat.le_refl _) _
      have Xx : (w6.alloc (.cells #[.int .i64 x.k, .int .i64 x.n, stv x.nm, .slice ax x.kids.len cx, .int .i64 x.a] 24)).heap[w6.heap.size]? = some (.cells #[.int .i64 x.k, .int .i64 x.n, stv x.nm, .slice ax x.kids.len cx, .int .i64 x.a] 24) := heap_alloc_new w6 _
      have B7 := B6.trans (bw.mono B6.size)
      have FX7 := FX6.below bw
      have Sx := SlA.below Sx bw
      have Se := SlA.below Se bw
      have Xe := (bw.block _ (lt_of_block Xe)).trans Xe
      rw [exV_out]
      go_upto_region 10 with fail
      generalize w6.alloc (.cells #[.int .i64 x.k, .int .i64 x.n, stv x.nm, .slice ax x.kids.len cx, .int .i64 x.a] 24) = w7 at *
      generalize w6.heap.size = bqx at *
      clear bw B6 FX6
      obtain ⟨xc0, xc1, xc2, xc3, xc4, xcf⟩ := box5 Xx
      obtain ⟨ec0, ec1, ec2, ec3, ec4, ecf⟩ := box5 Xe
      have c := same_ok (x.kids.size + 1) x e ax ao cx cap w7 (by omega) okx.fit.len okx.fit.sh fe.len fe.sh Sx Se
      rw [hsx, exV_out, exV_out] at c
      go_wp2_with fail
      refine c.mono ?_
      rintro x0 w8 ⟨rfl, bw⟩
      clear c
      clear xc0 xc1 xc2 xc3 xc4 xcf ec0 ec1 ec2 ec3 ec4 ecf
      clear Xx Sx hsx okx
      have B8 := B7.trans (bw.mono B7.size)
      have FX8 := FX7.below bw
      have Se := SlA.below Se bw
      have Xe := (bw.block _ (lt_of_block Xe)).trans Xe
      clear bw B7 FX7
      obtain ⟨ec0, ec1, ec2, ec3, ec4, ecf⟩ := box5 Xe
      have c := moved_ok (e.kids.size + 1) e ao cap byI w8 (by omega) fe.len fe.sh hb0 hb1 Se
      rw [exV_out] at c
      go_wp2_with fail
      refine c.mono ?_
      rintro x0 w9 ⟨y, ay, cy, rfl, hsy, SN, bw⟩
      clear c
      clear ec0 ec1 ec2 ec3 ec4 ecf
      have Sy := Sl.all SN
      clear SN
      have B9 := B8.trans (bw.mono B8.size)
      have FX9 := FX8.below bw
      have Se := SlA.below Se bw
      have Xe := (bw.block _ (lt_of_block Xe)).trans Xe
      clear bw B8 FX8
      have bw : Below w9.heap.size w9 (w9.alloc (.cells #[.int .i64 y.k, .int .i64 y.n, stv y.nm, .slice ay y.kids.len cy, .int .i64 y.a] 24)) := (Below.refl _ w9).alloc (Nat.le_refl _) _
      have Xy : (w9.alloc (.cells #[.int .i64 y.k, .int .i64 y.n, stv y.nm, .slice ay y.kids.len cy, .int .i64 y.a] 24)).heap[w9.heap.size]? = some (.cells #[.int .i64 y.k, .int .i64 y.n, stv y.nm, .slice ay y.kids.len cy, .int .i64 y.a] 24) := heap_alloc_new w9 _
      have B10 := B9.trans (bw.mono B9.size)
      have FX10 := FX9.below bw
      have Sy := SlA.below Sy bw
      have Se := SlA.below Se bw
      have Xe := (bw.block _ (lt_of_block Xe)).trans Xe
      rw [exV_out]
      go_upto_region 12 with fail
      generalize w9.alloc (.cells #[.int .i64 y.k, .int .i64 y.n, stv y.nm, .slice ay y.kids.len cy, .int .i64 y.a] 24) = w10 at *
      generalize w9.heap.size = bqy at *
      clear bw B9 FX9
      obtain ⟨wy, fy, zy⟩ := writA_same hsy
      have fy := fy fe
      obtain ⟨yc0, yc1, yc2, yc3, yc4, ycf⟩ := box5 Xy
      obtain ⟨ec0, ec1, ec2, ec3, ec4, ecf⟩ := box5 Xe
      have c := same_ok (y.kids.size + 1) y e ay ao cy cap w10 (by omega) fy.len fy.sh fe.len fe.sh Sy Se
      rw [hsy, exV_out, exV_out] at c
      go_wp2_with fail
      refine c.mono ?_
      rintro x0 w11 ⟨rfl, bw⟩
      clear c
      clear yc0 yc1 yc2 yc3 yc4 ycf ec0 ec1 ec2 ec3 ec4 ecf
      have B11 := B10.trans (bw.mono B10.size)
      have FX11 := FX10.below bw
      have Se := SlA.below Se bw
      have Xe := (bw.block _ (lt_of_block Xe)).trans Xe
      have Sy := SlA.below Sy bw
      have Xy := (bw.block _ (lt_of_block Xy)).trans Xy
      clear bw B10 FX10
      obtain ⟨yc0, yc1, yc2, yc3, yc4, ycf⟩ := box5 Xy
      have c := print_r y ay cy w11 fy FX11.fx Sy
      rw [wy, hWT, exV_out] at c
      go_wp2_with fail
      refine c.mono ?_
      rintro x0 w12 ⟨rfl, bw⟩
      clear c
      clear yc0 yc1 yc2 yc3 yc4 ycf
      clear Xy Sy
      have B12 := B11.trans (bw.mono B11.size)
      have FX12 := FX11.below bw
      have Se := SlA.below Se bw
      have Xe := (bw.block _ (lt_of_block Xe)).trans Xe
      clear bw B11 FX11
      simp only [Option.getD, Option.isSome, if_true]
      clear hWT wy hsy
      go_wp2
      go_meet
      exact ⟨rfl, B12⟩
  case rest =>
  obtain ⟨rfl, B20⟩ := hcut
  clear B5 FX5 Se Xe
  obtain ⟨w20, hw20⟩ : ∃ w20, w20 = wc := ⟨_, rfl⟩
  rw [← hw20] at B20 ⊢
  clear hw20
  have FX20 := FX.below B20
  have c := parse_a s w20 FX20 (by unfold maxLen; omega)
  go_wp2_with fail
  refine c.mono ?_
  rintro x0 w21 hP
  clear c
  obtain ⟨x, ax, cx, er, at1, rfl, SN, bw, R⟩ := hP.any
  clear hP
  have HR : Hid (RsIs (parseA s.data.toList) x er at1) := R
  have Sx := Sl.all SN
  clear SN R
  have B21 := B20.trans (bw.mono B20.size)
  have FX21 := FX20.below bw
  clear bw B20 FX20
  have bw : Below w21.heap.size w21 (w21.alloc (.cells #[.int .i64 x.k, .int .i64 x.n, stv x.nm, .slice ax x.kids.len cx, .int .i64 x.a] 24)) := (Below.refl _ w21).alloc (Nat.le_refl _) _
  have Xx : (w21.alloc (.cells #[.int .i64 x.k, .int .i64 x.n, stv x.nm, .slice ax x.kids.len cx, .int .i64 x.a] 24)).heap[w21.heap.size]? = some (.cells #[.int .i64 x.k, .int .i64 x.n, stv x.nm, .slice ax x.kids.len cx, .int .i64 x.a] 24) := heap_alloc_new w21 _
  have B22 := B21.trans (bw.mono B21.size)
  have FX22 := FX21.below bw
  have Sx := SlA.below Sx bw
  rw [exV_out]
  go_upto_region 17 with fail
  generalize w21.alloc (.cells #[.int .i64 x.k, .int .i64 x.n, stv x.nm, .slice ax x.kids.len cx, .int .i64 x.a] 24) = w22 at *
  generalize w21.heap.size = bqx at *
  clear bw B21 FX21
  cases h1 : parseA s.data.toList using Rs.on with
  | out => have h := HR.out; rw [h1] at h; exact h.elim
  | bad e1 p1 =>
    have h := HR.out
    rw [h1] at h
    obtain ⟨-, rfl, -⟩ := h
    have hne := parse_bad h1
    have hI : ((er : Int) != 0) = true := by simp; omega
    have hI2 : ¬ (er : Int) = 0 := by omega
    clear HR h1 hne Xx Sx
    go_wp2
    go_ret
    exact ⟨rfl, B22⟩
  | ok x1 t1 =>
  have h := HR.out
  rw [h1] at h
  obtain ⟨rfl, rfl, rfl⟩ := h
  have okx := parse_okT h1
  clear HR h1
  cases hT : writA x with
  | none =>
    obtain ⟨xc0, xc1, xc2, xc3, xc4, xcf⟩ := box5 Xx
    have c := print_r x ax cx w22 okx.fit FX22.fx Sx
    rw [hT, exV_out] at c
    go_wp2_with fail
    refine c.mono ?_
    rintro x0 w23 ⟨rfl, bw⟩
    clear c
    clear xc0 xc1 xc2 xc3 xc4 xcf
    have B23 := B22.trans (bw.mono B22.size)
    have FX23 := FX22.below bw
    have Sx := SlA.below Sx bw
    have Xx := (bw.block _ (lt_of_block Xx)).trans Xx
    clear bw B22 FX22
    simp only [Option.getD, Option.isSome]
    clear hT Xx Sx
    go_wp2
    go_ret
    exact ⟨rfl, B23⟩
  | some u =>
  obtain ⟨xc0, xc1, xc2, xc3, xc4, xcf⟩ := box5 Xx
  have c := print_r x ax cx w22 okx.fit FX22.fx Sx
  rw [hT, exV_out] at c
  go_wp2_with fail
  refine c.mono ?_
  rintro x0 w23 ⟨rfl, bw⟩
  clear c
  clear xc0 xc1 xc2 xc3 xc4 xcf
  have B23 := B22.trans (bw.mono B22.size)
  have FX23 := FX22.below bw
  have Sx := SlA.below Sx bw
  have Xx := (bw.block _ (lt_of_block Xx)).trans Xx
  clear bw B22 FX22
  simp only [Option.getD, Option.isSome, if_true]
  obtain ⟨hlt, y, t2, hP, hsy⟩ := print_parse okx.fit hT
  have oky := parse_okT hP
  have c := parse_a ⟨u.toArray⟩ w23 FX23 (by rw [size_mk]; unfold maxLen; omega)
  have et : (ByteArray.mk u.toArray).data.toList = u := by simp
  rw [et, hP] at c
  clear et hP
  go_wp2_with fail
  refine c.mono ?_
  rintro x0 w24 ⟨ay, cy, rfl, SN, bw⟩
  clear c
  have Sy := Sl.all SN
  clear SN
  have B24 := B23.trans (bw.mono B23.size)
  have FX24 := FX23.below bw
  have Sx := SlA.below Sx bw
  have Xx := (bw.block _ (lt_of_block Xx)).trans Xx
  clear bw B23 FX23
  have bw : Below w24.heap.size w24 (w24.alloc (.cells #[.int .i64 y.k, .int .i64 y.n, stv y.nm, .slice ay y.kids.len cy, .int .i64 y.a] 24)) := (Below.refl _ w24).alloc (Nat.le_refl _) _
  have Xy : (w24.alloc (.cells #[.int .i64 y.k, .int .i64 y.n, stv y.nm, .slice ay y.kids.len cy, .int .i64 y.a] 24)).heap[w24.heap.size]? = some (.cells #[.int .i64 y.k, .int .i64 y.n, stv y.nm, .slice ay y.kids.len cy, .int .i64 y.a] 24) := heap_alloc_new w24 _
  have B25 := B24.trans (bw.mono B24.size)
  have FX25 := FX24.below bw
  have Sy := SlA.below Sy bw
  have Sx := SlA.below Sx bw
  have Xx := (bw.block _ (lt_of_block Xx)).trans Xx
  rw [exV_out]
  go_upto_region 23 with fail
  generalize w24.alloc (.cells #[.int .i64 y.k, .int .i64 y.n, stv y.nm, .slice ay y.kids.len cy, .int .i64 y.a] 24) = w25 at *
  generalize w24.heap.size = bqy at *
  clear bw B24 FX24
  obtain ⟨wy, fy, zy⟩ := writA_same hsy
  have hxy : sameE x y = true := by rw [sameE_sym]; exact hsy
  obtain ⟨yc0, yc1, yc2, yc3, yc4, ycf⟩ := box5 Xy
  have c := print_r y ay cy w25 oky.fit FX25.fx Sy
  rw [wy, hT, exV_out] at c
  go_wp2_with fail
  refine c.mono ?_
  rintro x0 w26 ⟨rfl, bw⟩
  clear c
  clear yc0 yc1 yc2 yc3 yc4 ycf
  have B26 := B25.trans (bw.mono B25.size)
  have FX26 := FX25.below bw
  have Sx := SlA.below Sx bw
  have Xx := (bw.block _ (lt_of_block Xx)).trans Xx
  have Sy := SlA.below Sy bw
  have Xy := (bw.block _ (lt_of_block Xy)).trans Xy
  clear bw B25 FX25
  simp only [Option.getD, Option.isSome, if_true]
  clear hT wy hsy fy
  obtain ⟨xc0, xc1, xc2, xc3, xc4, xcf⟩ := box5 Xx
  obtain ⟨yc0, yc1, yc2, yc3, yc4, ycf⟩ := box5 Xy
  have c := same_ok (x.kids.size + 1) x y ax ay cx cy w26 (by omega) okx.fit.len okx.fit.sh oky.fit.len oky.fit.sh Sx Sy
  rw [hxy, exV_out, exV_out] at c
  go_wp2_with fail
  refine c.mono ?_
  rintro x0 w27 ⟨rfl, bw⟩
  clear c
  clear xc0 xc1 xc2 xc3 xc4 xcf yc0 yc1 yc2 yc3 yc4 ycf
  clear Xx Xy Sx Sy
  have B27 := B26.trans (bw.mono B26.size)
  have FX27 := FX26.below bw
  clear bw B26 FX26
  go_wp2
  go_ret
  exact ⟨rfl, B27⟩
end Go.Proofs.YtlmeonpdjcophaaDoor
