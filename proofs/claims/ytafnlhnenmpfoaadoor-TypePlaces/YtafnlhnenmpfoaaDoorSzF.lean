/- The writer's parts. -/
import Derived.Test.YtafnlhnenmpfoaaDoorSzE
namespace Go.Proofs.YtafnlhnenmpfoaaDoor
open Go.ChangeShapes Go.WideShapes Go.ChangeAt Go.RowKit
set_option linter.unusedVariables false
set_option linter.unusedSimpArgs false

abbrev kW (e : Ex) : Sep → St → St := fun g s => wFs e.kids g 0 s
theorem plain_w {N : Nat} (IH : PartOk N) (e : Ex) (ao : Option Addr) (cap wb : Nat) (s : St) (w : World) (o : Nat → Nat) (hN : e.kids.size ≤ N) (he : e.okA) (n6 : e.k ≠ 6) (n7 : e.k ≠ 7) (n19 : e.k ≠ 19) (n20 : e.k ≠ 20) (n21 : e.k ≠ 21) (n24 : e.k ≠ 24) (n25 : e.k ≠ 25) (F : Fit1 e.kids.size s) (FX : FixW o w) (S : Sl w (L0 o) e.kids ao) (H : WrS w o wb s) :
    Calls Tryd.prog 71 #[.pointer (some ⟨wb, 0, none⟩), exV e ao cap] w (PostS w o wb (wPlain e.k e.n e.nm (kW e) s)) := by
  have ht : s.t.length ≤ 1000000 := by have := F.t; omega
  obtain ⟨⟨g1, g2, g3, g4, g5, g6⟩, hkA⟩ := he
  by_cases h1 : e.k = 1
  · obtain ⟨k, n, nm, a, ks⟩ := e
    simp only at h1 g1 g4 g6
    subst h1
    exact plain1 n nm a ao ks.len cap wb s w o (by simpa [numB] using g1) g6 ht FX H
  by_cases h2 : e.k = 2
  · obtain ⟨k, n, nm, a, ks⟩ := e
    simp only at h2
    subst h2
    exact plain2 n nm a ao ks.len cap wb s w o ht FX H
  by_cases h3 : e.k = 3
  · obtain ⟨k, n, nm, a, ks⟩ := e
    simp only at h3 g1 g4 g6
    subst h3
    exact plain3 n nm a ao ks.len cap wb s w o (by simpa [numB] using g1) g6 ht FX H
  by_cases h4 : e.k = 4
  · obtain ⟨k, n, nm, a, ks⟩ := e
    simp only at h4 g4
    subst h4
    exact plain4 n nm a ao ks.len cap wb s w o g4 ht FX H
  by_cases h23 : e.k = 23
  · obtain ⟨k, n, nm, a, ks⟩ := e
    simp only at h23 g4
    subst h23
    exact plain23 n nm a ao ks.len cap wb s w o g4 ht FX H
  by_cases h22 : e.k = 22
  · obtain ⟨k, n, nm, a, ks⟩ := e
    simp only at h22
    subst h22
    exact plain22 n nm a ao ks.len cap wb s w o ht FX H
  have hw : wPlain e.k e.n e.nm (kW e) s = wFs e.kids (opS e.k) 0 s := by simp [wPlain, h1, h2, h3, h4, h23, h22]
  rw [hw]
  unfold kidB at g3
  simp only [bne h1, bne h2, bne h3, bne h4, bne h22, bne h23, bne n6, bne n7, bne n19, bne n20, bne n21, bne n24, bne n25, Bool.or_false, Bool.false_or, Bool.false_eq_true, if_false, Bool.and_eq_true] at g3
  obtain ⟨g3, g7⟩ := g3
  obtain ⟨qx, hq⟩ := Option.isSome_iff_exists.1 g3
  have hl2 : e.kids.len = 2 := by simp at g7; omega
  obtain ⟨x0, x1, hk⟩ := len2 hl2
  exact op_w IH e x0 x1 ao cap wb s w o hk hN hkA h1 h2 h3 h4 h22 h23 qx hq F FX S H
set_option maxRecDepth 100000 in
theorem part_7 {N : Nat} (IH : PartOk N) (e : Ex) (ao : Option Addr) (cap asked wb : Nat) (s : St) (w : World) (o : Nat → Nat) (hN : e.kids.size < N + 1) (he : e.okA) (hr : ¬ rowOf e.k < asked) (hk : e.k = 7) (F : Fit1 e.kids.size s) (FX : FixW o w) (S : Sl w (L0 o) e.kids ao) (H : WrS w o wb s) :
    Calls Tryd.prog 43 #[.pointer (some ⟨wb, 0, none⟩), exV e ao cap, .int .i64 (asked : Nat)] w (PostS w o wb (wNode e.k e.n e.nm (kW e) s)) := by
  obtain ⟨⟨g1, g2, g3, g4, g5, g6⟩, hkA⟩ := he
  have hlen : e.kids.len = 1 := by simp [kidB, hk] at g3; omega
  obtain ⟨x0, hks⟩ := len1 hlen
  have hw : wNode e.k e.n e.nm (kW e) s = (wEx x0 3 (s.ent.lay [110, 111, 116, 32])).lea := by simp [wNode, hk, kW, hks, wFs_ex, wFs]
  rw [hw]
  have hx0 : x0.okA := (okA_ex (by rw [hks] at hkA; exact hkA)).1
  have hz : e.kids.size = x0.kids.size + 0 + 1 := by rw [hks]; rfl
  have HK : Hid (e.kids = Fs.ex x0 .nil) := hks
  obtain ⟨bb, bf, -, -, rfl, -⟩ := Sl.kidP (x := .nil) (by rw [hks] at S; exact S) 0 rfl
  have m7 : (e.k == 7) = true := by rw [beq_iff_eq]; exact hk
  clear hks hw g1 g2 g3 hk
  have st0 := boxStep I12 w o (.cells #[.int .i64 e.k, .int .i64 e.n, stv e.nm, .slice (some ⟨bb, bf, none⟩) 1 cap, .int .i64 e.a] 24)
  have E0 := boxBlk w o #[.int .i64 e.k, .int .i64 e.n, stv e.nm, .slice (some ⟨bb, bf, none⟩) 1 cap, .int .i64 e.a] 24
  have H0 : WrS _ _ wb s := H.step (boxStep (fun _ => False) w o (.cells #[.int .i64 e.k, .int .i64 e.n, stv e.nm, .slice (some ⟨bb, bf, none⟩) 1 cap, .int .i64 e.a] 24)) id id
  have S0 := S.stp st0
  have FX0 := FX.stp st0
  have hrI : ¬ ((rowOf e.k : Nat) : Int) < (asked : Int) := by omega
  rw [exV_out, hlen]
  go_enter Tryd.func43, Tryd.ntmps43
  go_upto_region 1 with fail
  generalize w.alloc (.cells #[.int .i64 e.k, .int .i64 e.n, stv e.nm, .slice (some ⟨bb, bf, none⟩) 1 cap, .int .i64 e.a] 24) = w0 at *
  generalize newLab w o 0 = o0 at *
  generalize w.heap.size = bx at *
  have T0 := st0
  clear st0 H S FX
  obtain ⟨p0, p1, p2, p3, p4, pf⟩ := box5 E0.1
  have c := rowOf_r e.k w0 FX0.op
  go_wp2_with fail
  refine c.mono ?_
  rintro y1 w1 ⟨rfl, b1⟩
  have st1 : Step I12 w0 o0 w1 o0 := Step.ofB o0 b1
  have H1 : WrS w1 o0 wb s := H0.step (Step.ofB (I := fun _ => False) o0 b1) id id
  have T1 := T0.trans st1
  have E1 := E0.stp st1
  have S1 := S0.stp st1
  have FX1 := FX0.stp st1
  clear c p0 p1 p2 p3 p4 pf T0 E0 S0 FX0 H0 st1 b1
  obtain ⟨p0, p1, p2, p3, p4, pf⟩ := box5 E1.1
  obtain ⟨b1, off1, ak1, ck1, ho1, q0, q1, q2, q3, q4, SK⟩ := Sl.kidP (x := .nil) (y := x0) (by rw [HK.out] at S1; exact S1) 0 rfl
  obtain ⟨rfl, rfl⟩ := addr_inj ho1
  clear ho1
  simp only [Nat.reduceMul, Nat.add_zero] at q0 q1 q2 q3 q4
  have hc := prefixed_r IH x0 ak1 ck1 3 wb [110, 111, 116, 32] s w1 o0 (by omega) hx0 (by omega) (by simp) (by have := F; rw [hz] at this; exact this) FX1 SK H1
  rw [exV_out] at hc
  go_wp2_with fail
  refine hc.mono ?_
  rintro y2 w9 ⟨rfl, o9, H9, st9⟩
  have T9 := T1.trans st9
  clear hc T1 st9
  go_wp2
  go_end0
  exact ⟨rfl, o9, H9, T9⟩
set_option maxRecDepth 100000 in
theorem part_6 {N : Nat} (IH : PartOk N) (e : Ex) (ao : Option Addr) (cap asked wb : Nat) (s : St) (w : World) (o : Nat → Nat) (hN : e.kids.size < N + 1) (he : e.okA) (hr : ¬ rowOf e.k < asked) (hk : e.k = 6) (F : Fit1 e.kids.size s) (FX : FixW o w) (S : Sl w (L0 o) e.kids ao) (H : WrS w o wb s) :
    Calls Tryd.prog 43 #[.pointer (some ⟨wb, 0, none⟩), exV e ao cap, .int .i64 (asked : Nat)] w (PostS w o wb (wNode e.k e.n e.nm (kW e) s)) := by
  obtain ⟨⟨g1, g2, g3, g4, g5, g6⟩, hkA⟩ := he
  have hlen : e.kids.len = 1 := by simp [kidB, hk] at g3; omega
  obtain ⟨x0, hks⟩ := len1 hlen
  have hw : wNode e.k e.n e.nm (kW e) s = (wEx x0 7 (s.ent.lay [45])).lea := by simp [wNode, hk, kW, hks, wFs_ex, wFs]
  rw [hw]
  have hx0 : x0.okA := (okA_ex (by rw [hks] at hkA; exact hkA)).1
  have hz : e.kids.size = x0.kids.size + 0 + 1 := by rw [hks]; rfl
  have HK : Hid (e.kids = Fs.ex x0 .nil) := hks
  obtain ⟨bb, bf, -, -, rfl, -⟩ := Sl.kidP (x := .nil) (by rw [hks] at S; exact S) 0 rfl
  have m7 : (e.k == 7) = false := bne (by omega)
  have m6 : (e.k == 6) = true := by rw [beq_iff_eq]; exact hk
  clear hks hw g1 g2 g3 hk
  have st0 := boxStep I12 w o (.cells #[.int .i64 e.k, .int .i64 e.n, stv e.nm, .slice (some ⟨bb, bf, none⟩) 1 cap, .int .i64 e.a] 24)
  have E0 := boxBlk w o #[.int .i64 e.k, .int .i64 e.n, stv e.nm, .slice (some ⟨bb, bf, none⟩) 1 cap, .int .i64 e.a] 24
  have H0 : WrS _ _ wb s := H.step (boxStep (fun _ => False) w o (.cells #[.int .i64 e.k, .int .i64 e.n, stv e.nm, .slice (some ⟨bb, bf, none⟩) 1 cap, .int .i64 e.a] 24)) id id
  have S0 := S.stp st0
  have FX0 := FX.stp st0
  have hrI : ¬ ((rowOf e.k : Nat) : Int) < (asked : Int) := by omega
  rw [exV_out, hlen]
  go_enter Tryd.func43, Tryd.ntmps43
  go_upto_region 1 with fail
  generalize w.alloc (.cells #[.int .i64 e.k, .int .i64 e.n, stv e.nm, .slice (some ⟨bb, bf, none⟩) 1 cap, .int .i64 e.a] 24) = w0 at *
  generalize newLab w o 0 = o0 at *
  generalize w.heap.size = bx at *
  have T0 := st0
  clear st0 H S FX
  obtain ⟨p0, p1, p2, p3, p4, pf⟩ := box5 E0.1
  have c := rowOf_r e.k w0 FX0.op
  go_wp2_with fail
  refine c.mono ?_
  rintro y1 w1 ⟨rfl, b1⟩
  have st1 : Step I12 w0 o0 w1 o0 := Step.ofB o0 b1
  have H1 : WrS w1 o0 wb s := H0.step (Step.ofB (I := fun _ => False) o0 b1) id id
  have T1 := T0.trans st1
  have E1 := E0.stp st1
  have S1 := S0.stp st1
  have FX1 := FX0.stp st1
  clear c p0 p1 p2 p3 p4 pf T0 E0 S0 FX0 H0 st1 b1
  obtain ⟨p0, p1, p2, p3, p4, pf⟩ := box5 E1.1
  obtain ⟨b1, off1, ak1, ck1, ho1, q0, q1, q2, q3, q4, SK⟩ := Sl.kidP (x := .nil) (y := x0) (by rw [HK.out] at S1; exact S1) 0 rfl
  obtain ⟨rfl, rfl⟩ := addr_inj ho1
  clear ho1
  simp only [Nat.reduceMul, Nat.add_zero] at q0 q1 q2 q3 q4
  have hc := prefixed_r IH x0 ak1 ck1 7 wb [45] s w1 o0 (by omega) hx0 (by omega) (by simp) (by have := F; rw [hz] at this; exact this) FX1 SK H1
  rw [exV_out] at hc
  go_wp2_with fail
  refine hc.mono ?_
  rintro y2 w9 ⟨rfl, o9, H9, st9⟩
  have T9 := T1.trans st9
  clear hc T1 st9
  go_wp2
  go_end0
  exact ⟨rfl, o9, H9, T9⟩
set_option maxRecDepth 100000 in
theorem part_19 {N : Nat} (IH : PartOk N) (e : Ex) (ao : Option Addr) (cap asked wb : Nat) (s : St) (w : World) (o : Nat → Nat) (hN : e.kids.size < N + 1) (he : e.okA) (hr : ¬ rowOf e.k < asked) (hk : e.k = 19) (F : Fit1 e.kids.size s) (FX : FixW o w) (S : Sl w (L0 o) e.kids ao) (H : WrS w o wb s) :
    Calls Tryd.prog 43 #[.pointer (some ⟨wb, 0, none⟩), exV e ao cap, .int .i64 (asked : Nat)] w (PostS w o wb (wNode e.k e.n e.nm (kW e) s)) := by
  obtain ⟨⟨g1, g2, g3, g4, g5, g6⟩, hkA⟩ := he
  have hlen : e.kids.len = 3 := by simp [kidB, hk] at g3; omega
  obtain ⟨x0, x1, x2, hks⟩ := len3 hlen
  have hw : wNode e.k e.n e.nm (kW e) s = (wFs e.kids ifS 0 s.ent).lea := by simp [wNode, hk, kW]
  rw [hw]
  have HK : Hid (e.kids = Fs.ex x0 (Fs.ex x1 (Fs.ex x2 .nil))) := hks
  have HL : Hid (e.kids.len = 3) := hlen
  have m7 : (e.k == 7) = false := bne (by omega)
  have m6 : (e.k == 6) = false := bne (by omega)
  have m19 : (e.k == 19) = true := by rw [beq_iff_eq]; exact hk
  clear hks hw g1 g2 g3 hk
  have st0 := boxStep I12 w o (.cells #[.int .i64 e.k, .int .i64 e.n, stv e.nm, .slice ao 3 cap, .int .i64 e.a] 24)
  have E0 := boxBlk w o #[.int .i64 e.k, .int .i64 e.n, stv e.nm, .slice ao 3 cap, .int .i64 e.a] 24
  have H0 : WrS _ _ wb s := H.step (boxStep (fun _ => False) w o (.cells #[.int .i64 e.k, .int .i64 e.n, stv e.nm, .slice ao 3 cap, .int .i64 e.a] 24)) id id
  have S0 := S.stp st0
  have FX0 := FX.stp st0
  have hrI : ¬ ((rowOf e.k : Nat) : Int) < (asked : Int) := by omega
  rw [exV_out, hlen]
  go_enter Tryd.func43, Tryd.ntmps43
  go_upto_region 1 with fail
  generalize w.alloc (.cells #[.int .i64 e.k, .int .i64 e.n, stv e.nm, .slice ao 3 cap, .int .i64 e.a] 24) = w0 at *
  generalize newLab w o 0 = o0 at *
  generalize w.heap.size = bx at *
  have T0 := st0
  clear st0 H S FX
  obtain ⟨p0, p1, p2, p3, p4, pf⟩ := box5 E0.1
  have c := rowOf_r e.k w0 FX0.op
  go_wp2_with fail
  refine c.mono ?_
  rintro y1 w1 ⟨rfl, b1⟩
  have st1 : Step I12 w0 o0 w1 o0 := Step.ofB o0 b1
  have H1 : WrS w1 o0 wb s := H0.step (Step.ofB (I := fun _ => False) o0 b1) id id
  have T1 := T0.trans st1
  have E1 := E0.stp st1
  have S1 := S0.stp st1
  have FX1 := FX0.stp st1
  clear c p0 p1 p2 p3 p4 pf T0 E0 S0 FX0 H0 st1 b1
  obtain ⟨p0, p1, p2, p3, p4, pf⟩ := box5 E1.1
  have hc := choice_w IH e x0 x1 x2 ao cap wb s w1 o0 HK.out (by omega) hkA F FX1 S1 H1
  rw [exV_out, HL.out] at hc
  go_wp2_with fail
  refine hc.mono ?_
  rintro y2 w9 ⟨rfl, o9, H9, st9⟩
  have T9 := T1.trans st9
  clear hc T1 st9
  go_wp2
  go_end0
  exact ⟨rfl, o9, H9, T9⟩
set_option maxRecDepth 100000 in
theorem part_21 {N : Nat} (IH : PartOk N) (e : Ex) (ao : Option Addr) (cap asked wb : Nat) (s : St) (w : World) (o : Nat → Nat) (hN : e.kids.size < N + 1) (he : e.okA) (hr : ¬ rowOf e.k < asked) (hk : e.k = 21) (F : Fit1 e.kids.size s) (FX : FixW o w) (S : Sl w (L0 o) e.kids ao) (H : WrS w o wb s) :
    Calls Tryd.prog 43 #[.pointer (some ⟨wb, 0, none⟩), exV e ao cap, .int .i64 (asked : Nat)] w (PostS w o wb (wNode e.k e.n e.nm (kW e) s)) := by
  obtain ⟨⟨g1, g2, g3, g4, g5, g6⟩, hkA⟩ := he
  have hlen : e.kids.len = 2 := by simp [kidB, hk] at g3; omega
  have hqs : (quantOf e.n).isSome = true := by simpa [numB, hk] using g1
  obtain ⟨qx, hq⟩ := Option.isSome_iff_exists.1 hqs
  obtain ⟨x0, x1, hks⟩ := len2 hlen
  have hw : wNode e.k e.n e.nm (kW e) s = (wFs e.kids (quS e.n e.nm) 0 s.ent.qent).qlea.lea := by simp [wNode, hk, kW]
  rw [hw]
  have HK : Hid (e.kids = Fs.ex x0 (Fs.ex x1 .nil)) := hks
  have HL : Hid (e.kids.len = 2) := hlen
  have m7 : (e.k == 7) = false := bne (by omega)
  have m6 : (e.k == 6) = false := bne (by omega)
  have m19 : (e.k == 19) = false := bne (by omega)
  have m21 : (e.k == 21) = true := by rw [beq_iff_eq]; exact hk
  clear hks hw g1 g2 g3 hk hqs
  have st0 := boxStep I12 w o (.cells #[.int .i64 e.k, .int .i64 e.n, stv e.nm, .slice ao 2 cap, .int .i64 e.a] 24)
  have E0 := boxBlk w o #[.int .i64 e.k, .int .i64 e.n, stv e.nm, .slice ao 2 cap, .int .i64 e.a] 24
  have H0 : WrS _ _ wb s := H.step (boxStep (fun _ => False) w o (.cells #[.int .i64 e.k, .int .i64 e.n, stv e.nm, .slice ao 2 cap, .int .i64 e.a] 24)) id id
  have S0 := S.stp st0
  have FX0 := FX.stp st0
  have hrI : ¬ ((rowOf e.k : Nat) : Int) < (asked : Int) := by omega
  rw [exV_out, hlen]
  go_enter Tryd.func43, Tryd.ntmps43
  go_upto_region 1 with fail
  generalize w.alloc (.cells #[.int .i64 e.k, .int .i64 e.n, stv e.nm, .slice ao 2 cap, .int .i64 e.a] 24) = w0 at *
  generalize newLab w o 0 = o0 at *
  generalize w.heap.size = bx at *
  have T0 := st0
  clear st0 H S FX
  obtain ⟨p0, p1, p2, p3, p4, pf⟩ := box5 E0.1
  have c := rowOf_r e.k w0 FX0.op
  go_wp2_with fail
  refine c.mono ?_
  rintro y1 w1 ⟨rfl, b1⟩
  have st1 : Step I12 w0 o0 w1 o0 := Step.ofB o0 b1
  have H1 : WrS w1 o0 wb s := H0.step (Step.ofB (I := fun _ => False) o0 b1) id id
  have T1 := T0.trans st1
  have E1 := E0.stp st1
  have S1 := S0.stp st1
  have FX1 := FX0.stp st1
  clear c p0 p1 p2 p3 p4 pf T0 E0 S0 FX0 H0 st1 b1
  obtain ⟨p0, p1, p2, p3, p4, pf⟩ := box5 E1.1
  have hc := quant_w IH e x0 x1 ao cap wb s w1 o0 HK.out (by omega) hkA g4 qx hq F FX1 S1 H1
  rw [exV_out, HL.out] at hc
  go_wp2_with fail
  refine hc.mono ?_
  rintro y2 w9 ⟨rfl, o9, H9, st9⟩
  have T9 := T1.trans st9
  clear hc T1 st9
  go_wp2
  go_end0
  exact ⟨rfl, o9, H9, T9⟩
set_option maxRecDepth 100000 in
theorem part_d {N : Nat} (IH : PartOk N) (e : Ex) (ao : Option Addr) (cap asked wb : Nat) (s : St) (w : World) (o : Nat → Nat) (hN : e.kids.size < N + 1) (he : e.okA) (hr : ¬ rowOf e.k < asked) (n6 : e.k ≠ 6) (n7 : e.k ≠ 7) (n19 : e.k ≠ 19) (n20 : e.k ≠ 20) (n21 : e.k ≠ 21) (n24 : e.k ≠ 24) (n25 : e.k ≠ 25) (F : Fit1 e.kids.size s) (FX : FixW o w) (S : Sl w (L0 o) e.kids ao) (H : WrS w o wb s) :
    Calls Tryd.prog 43 #[.pointer (some ⟨wb, 0, none⟩), exV e ao cap, .int .i64 (asked : Nat)] w (PostS w o wb (wNode e.k e.n e.nm (kW e) s)) := by
  have hw : wNode e.k e.n e.nm (kW e) s = wPlain e.k e.n e.nm (kW e) s := by simp [wNode, n6, n7, n19, n20, n21, n24, n25]
  rw [hw]
  have m7 := bne n7
  have m6 := bne n6
  have m19 := bne n19
  have m21 := bne n21
  have m20 := bne n20
  have m24 := bne n24
  have m25 := bne n25
  clear hw
  have st0 := boxStep I12 w o (.cells #[.int .i64 e.k, .int .i64 e.n, stv e.nm, .slice ao e.kids.len cap, .int .i64 e.a] 24)
  have E0 := boxBlk w o #[.int .i64 e.k, .int .i64 e.n, stv e.nm, .slice ao e.kids.len cap, .int .i64 e.a] 24
  have H0 : WrS _ _ wb s := H.step (boxStep (fun _ => False) w o (.cells #[.int .i64 e.k, .int .i64 e.n, stv e.nm, .slice ao e.kids.len cap, .int .i64 e.a] 24)) id id
  have S0 := S.stp st0
  have FX0 := FX.stp st0
  have hrI : ¬ ((rowOf e.k : Nat) : Int) < (asked : Int) := by omega
  rw [exV_out]
  go_enter Tryd.func43, Tryd.ntmps43
  go_upto_region 1 with fail
  generalize w.alloc (.cells #[.int .i64 e.k, .int .i64 e.n, stv e.nm, .slice ao e.kids.len cap, .int .i64 e.a] 24) = w0 at *
  generalize newLab w o 0 = o0 at *
  generalize w.heap.size = bx at *
  have T0 := st0
  clear st0 H S FX
  obtain ⟨p0, p1, p2, p3, p4, pf⟩ := box5 E0.1
  have c := rowOf_r e.k w0 FX0.op
  go_wp2_with fail
  refine c.mono ?_
  rintro y1 w1 ⟨rfl, b1⟩
  have st1 : Step I12 w0 o0 w1 o0 := Step.ofB o0 b1
  have H1 : WrS w1 o0 wb s := H0.step (Step.ofB (I := fun _ => False) o0 b1) id id
  have T1 := T0.trans st1
  have E1 := E0.stp st1
  have S1 := S0.stp st1
  have FX1 := FX0.stp st1
  clear c p0 p1 p2 p3 p4 pf T0 E0 S0 FX0 H0 st1 b1
  obtain ⟨p0, p1, p2, p3, p4, pf⟩ := box5 E1.1
  have hc := plain_w IH e ao cap wb s w1 o0 (by omega) he n6 n7 n19 n20 n21 n24 n25 F FX1 S1 H1
  rw [exV_out] at hc
  go_wp2_with fail
  refine hc.mono ?_
  rintro y2 w9 ⟨rfl, o9, H9, st9⟩
  have T9 := T1.trans st9
  clear hc T1 st9
  go_wp2
  go_end0
  exact ⟨rfl, o9, H9, T9⟩
end Go.Proofs.YtafnlhnenmpfoaaDoor
