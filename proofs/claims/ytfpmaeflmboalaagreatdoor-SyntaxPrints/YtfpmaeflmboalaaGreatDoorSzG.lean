/- The writer's part. -/
import Derived.Test.YtfpmaeflmboalaaGreatDoorSzF
namespace Go.Proofs.YtfpmaeflmboalaaGreatDoor
open Go.ChangeShapes Go.WideShapes Go.ChangeAt Go.RowKit
set_option linter.unusedVariables false
set_option linter.unusedSimpArgs false

theorem cells3k {w : World} {b : Nat} {a0 a1 a2 : Value} {t : TypeId} (h : w.heap[b]? = some (.cells #[a0, a1, a2] t (0, 0))) : w.cell? ⟨b, 0, none⟩ = some a0 ∧ w.cell? ⟨b, 1, none⟩ = some a1 ∧ w.cell? ⟨b, 2, none⟩ = some a2 ∧ ∀ j, w.frozen? ⟨b, j, none⟩ = false := by
  refine ⟨?_, ?_, ?_, fun j => frozen_of_row w b j _ t h⟩ <;> simp [cell_of_row w b _ _ t (0, 0) h]
theorem Fs.len_le_size : ∀ (f : Fs), f.len ≤ f.size
  | ⟨none⟩ => Nat.le_refl _
  | ⟨some ⟨k, n, nm, a, ks, r⟩⟩ => by have := Fs.len_le_size r; simp only [Fs.len, Fs.size]; omega
theorem Fit1.list {D : Nat} {s : St} (F : Fit1 D s) (x : List UInt8) (hx : x.length ≤ 20) : Fit D (s.lay x) := by
  obtain ⟨f1, f2, f3, f4, f5⟩ := F
  exact ⟨by simp only [St.lay, List.length_append]; omega, by simp only [St.lay]; omega, f3, by simp only [St.lay]; omega, f5⟩
set_option maxRecDepth 100000 in
theorem part_25 {N : Nat} (IH : PartOk N) (e : Ex) (ao : Option Addr) (cap asked wb : Nat) (s : St) (w : World) (o : Nat → Nat) (hN : e.kids.size < N + 1) (he : e.okA) (hr : ¬ rowOf e.k < asked) (I0 : Part0 N) (hk : e.k = 25) (F : Fit1 e.kids.size s) (FX : FixW o w) (S : Sl w (L0 o) e.kids ao) (H : WrS w o wb s) :
    Calls Tryz.prog 48 #[.pointer (some ⟨wb, 0, none⟩), exV e ao cap, .int .i64 (asked : Nat)] w (PostS w o wb (wNode e.k e.n e.nm (kW e) s)) := by
  have hw : wNode e.k e.n e.nm (kW e) s = wList [123] [125] (kW e) s := by simp [wNode, hk]
  rw [hw]
  have FL := F.list [] (by simp)
  rw [lay_nil] at FL
  have m7 : (e.k == 7) = false := bne (by omega)
  have m6 : (e.k == 6) = false := bne (by omega)
  have m19 : (e.k == 19) = false := bne (by omega)
  have m21 : (e.k == 21) = false := bne (by omega)
  have m20 : (e.k == 20) = false := bne (by omega)
  have m24 : (e.k == 24) = false := bne (by omega)
  have m25 : (e.k == 25) = true := by rw [beq_iff_eq]; exact hk
  clear hw hk
  have st0 := boxStep I12 w o (.cells #[.int .i64 e.k, .int .i64 e.n, stv e.nm, .slice ao e.kids.len cap, .int .i64 e.a] 25)
  have E0 := boxBlk w o #[.int .i64 e.k, .int .i64 e.n, stv e.nm, .slice ao e.kids.len cap, .int .i64 e.a] 25
  have H0 : WrS _ _ wb s := H.step (boxStep (fun _ => False) w o (.cells #[.int .i64 e.k, .int .i64 e.n, stv e.nm, .slice ao e.kids.len cap, .int .i64 e.a] 25)) id id
  have S0 := S.stp st0
  have FX0 := FX.stp st0
  have hrI : ¬ ((rowOf e.k : Nat) : Int) < (asked : Int) := by omega
  rw [exV_out]
  go_enter Tryz.func48, Tryz.ntmps48
  go_upto_region 1 with fail
  generalize w.alloc (.cells #[.int .i64 e.k, .int .i64 e.n, stv e.nm, .slice ao e.kids.len cap, .int .i64 e.a] 25) = w0 at *
  generalize newLab w o 0 = o0 at *
  generalize w.heap.size = bx at *
  have T0 := st0
  clear st0 H S FX
  obtain ⟨p0, p1, p2, p3, p4, pf⟩ := box5 E0.1
  have c := rowOf_r e.k w0 FX0.op
  go_wp2_with fail
  refine c.mono ?_
  rintro y1 w1 ⟨rfl, b1⟩
  have st1 : Step I12 w0 o0 w1 o0 := Step.ofB o0 b1
  have H1 : WrS w1 o0 wb s := H0.step (Step.ofB (I := fun _ => False) o0 b1) id id
  have T1 := T0.trans st1
  have E1 := E0.stp st1
  have S1 := S0.stp st1
  have FX1 := FX0.stp st1
  clear c p0 p1 p2 p3 p4 pf T0 E0 S0 FX0 H0 st1 b1
  obtain ⟨p0, p1, p2, p3, p4, pf⟩ := box5 E1.1
  obtain ⟨o1, ho1⟩ : ∃ z, z = o0 := ⟨_, rfl⟩
  rw [← ho1] at H1 T1 E1 S1 FX1
  clear ho1
  have hc := list_w I0 e.kids ao cap wb [123] [125] s w1 o1 (by omega) he.2 (by have := Fs.len_le_size e.kids; have := F.t; omega) (by simp) (by simp) FL FX1 S1 H1
  go_wp2_with fail
  refine hc.mono ?_
  rintro y2 w9 ⟨rfl, o9, H9, st9⟩
  have T9 := T1.trans st9
  clear hc T1 st9
  go_wp2
  go_end0
  exact ⟨rfl, o9, H9, T9⟩
set_option maxRecDepth 100000 in
theorem part_24 {N : Nat} (IH : PartOk N) (e : Ex) (ao : Option Addr) (cap asked wb : Nat) (s : St) (w : World) (o : Nat → Nat) (hN : e.kids.size < N + 1) (he : e.okA) (hr : ¬ rowOf e.k < asked) (I0 : Part0 N) (hk : e.k = 24) (F : Fit1 e.kids.size s) (FX : FixW o w) (S : Sl w (L0 o) e.kids ao) (H : WrS w o wb s) :
    Calls Tryz.prog 48 #[.pointer (some ⟨wb, 0, none⟩), exV e ao cap, .int .i64 (asked : Nat)] w (PostS w o wb (wNode e.k e.n e.nm (kW e) s)) := by
  have hw : wNode e.k e.n e.nm (kW e) s = wList [40] [41] (kW e) (s.lay [97, 114, 111, 117, 110, 100]) := by simp [wNode, hk]
  rw [hw]
  have hxl : ([97, 114, 111, 117, 110, 100] : List UInt8).length ≤ 20 := by simp
  have FL := F.list [97, 114, 111, 117, 110, 100] hxl
  have m7 : (e.k == 7) = false := bne (by omega)
  have m6 : (e.k == 6) = false := bne (by omega)
  have m19 : (e.k == 19) = false := bne (by omega)
  have m21 : (e.k == 21) = false := bne (by omega)
  have m20 : (e.k == 20) = false := bne (by omega)
  have m24 : (e.k == 24) = true := by rw [beq_iff_eq]; exact hk
  clear hw hk
  have st0 := boxStep I12 w o (.cells #[.int .i64 e.k, .int .i64 e.n, stv e.nm, .slice ao e.kids.len cap, .int .i64 e.a] 25)
  have E0 := boxBlk w o #[.int .i64 e.k, .int .i64 e.n, stv e.nm, .slice ao e.kids.len cap, .int .i64 e.a] 25
  have H0 : WrS _ _ wb s := H.step (boxStep (fun _ => False) w o (.cells #[.int .i64 e.k, .int .i64 e.n, stv e.nm, .slice ao e.kids.len cap, .int .i64 e.a] 25)) id id
  have S0 := S.stp st0
  have FX0 := FX.stp st0
  have hrI : ¬ ((rowOf e.k : Nat) : Int) < (asked : Int) := by omega
  rw [exV_out]
  go_enter Tryz.func48, Tryz.ntmps48
  go_upto_region 1 with fail
  generalize w.alloc (.cells #[.int .i64 e.k, .int .i64 e.n, stv e.nm, .slice ao e.kids.len cap, .int .i64 e.a] 25) = w0 at *
  generalize newLab w o 0 = o0 at *
  generalize w.heap.size = bx at *
  have T0 := st0
  clear st0 H S FX
  obtain ⟨p0, p1, p2, p3, p4, pf⟩ := box5 E0.1
  have c := rowOf_r e.k w0 FX0.op
  go_wp2_with fail
  refine c.mono ?_
  rintro y1 w1 ⟨rfl, b1⟩
  have st1 : Step I12 w0 o0 w1 o0 := Step.ofB o0 b1
  have H1 : WrS w1 o0 wb s := H0.step (Step.ofB (I := fun _ => False) o0 b1) id id
  have T1 := T0.trans st1
  have E1 := E0.stp st1
  have S1 := S0.stp st1
  have FX1 := FX0.stp st1
  clear c p0 p1 p2 p3 p4 pf T0 E0 S0 FX0 H0 st1 b1
  obtain ⟨p0, p1, p2, p3, p4, pf⟩ := box5 E1.1
  obtain ⟨o1, ho1⟩ : ∃ z, z = o0 := ⟨_, rfl⟩
  rw [← ho1] at H1 T1 E1 S1 FX1
  clear ho1
  have c := lay_r ([97, 114, 111, 117, 110, 100]) H1 (by have := F.t; have := hxl; omega)
  go_wp2_with fail
  refine c.mono ?_
  rintro y2 w2 ⟨rfl, o2, H2', st2⟩
  have H2 : WrS w2 o2 wb (s.lay ([97, 114, 111, 117, 110, 100])) := H2'
  have T2 := T1.trans st2
  have E2 := E1.stp st2
  have S2 := S1.stp st2
  have FX2 := FX1.stp st2
  clear c p0 p1 p2 p3 p4 pf T1 E1 S1 FX1 H1 H2' st2
  obtain ⟨p0, p1, p2, p3, p4, pf⟩ := box5 E2.1
  have hc := list_w I0 e.kids ao cap wb [40] [41] (s.lay [97, 114, 111, 117, 110, 100]) w2 o2 (by omega) he.2 (by have := Fs.len_le_size e.kids; have := F.t; omega) (by simp) (by simp) FL FX2 S2 H2
  go_wp2_with fail
  refine hc.mono ?_
  rintro y2 w9 ⟨rfl, o9, H9, st9⟩
  have T9 := T2.trans st9
  clear hc T2 st9
  go_wp2
  go_end0
  exact ⟨rfl, o9, H9, T9⟩
set_option maxRecDepth 100000 in
theorem part_20 {N : Nat} (IH : PartOk N) (e : Ex) (ao : Option Addr) (cap asked wb : Nat) (s : St) (w : World) (o : Nat → Nat) (hN : e.kids.size < N + 1) (he : e.okA) (hr : ¬ rowOf e.k < asked) (I0 : Part0 N) (hk : e.k = 20) (F : Fit1 e.kids.size s) (FX : FixW o w) (S : Sl w (L0 o) e.kids ao) (H : WrS w o wb s) :
    Calls Tryz.prog 48 #[.pointer (some ⟨wb, 0, none⟩), exV e ao cap, .int .i64 (asked : Nat)] w (PostS w o wb (wNode e.k e.n e.nm (kW e) s)) := by
  have hqs : (callOf e.n).isSome = true := by simpa [numB, hk] using he.1.1
  obtain ⟨qx, hq⟩ := Option.isSome_iff_exists.1 hqs
  have hcw : cword e.n = qx.1 := by unfold cword; rw [hq]
  have hw : wNode e.k e.n e.nm (kW e) s = wList [40] [41] (kW e) (s.lay qx.1) := by simp [wNode, hk, hcw]
  rw [hw]
  have hxl : qx.1.length ≤ 20 := by have := cword_len e.n; rw [hcw] at this; omega
  have FL := F.list qx.1 hxl
  have m7 : (e.k == 7) = false := bne (by omega)
  have m6 : (e.k == 6) = false := bne (by omega)
  have m19 : (e.k == 19) = false := bne (by omega)
  have m21 : (e.k == 21) = false := bne (by omega)
  have m20 : (e.k == 20) = true := by rw [beq_iff_eq]; exact hk
  clear hw hk hqs hcw
  have st0 := boxStep I12 w o (.cells #[.int .i64 e.k, .int .i64 e.n, stv e.nm, .slice ao e.kids.len cap, .int .i64 e.a] 25)
  have E0 := boxBlk w o #[.int .i64 e.k, .int .i64 e.n, stv e.nm, .slice ao e.kids.len cap, .int .i64 e.a] 25
  have H0 : WrS _ _ wb s := H.step (boxStep (fun _ => False) w o (.cells #[.int .i64 e.k, .int .i64 e.n, stv e.nm, .slice ao e.kids.len cap, .int .i64 e.a] 25)) id id
  have S0 := S.stp st0
  have FX0 := FX.stp st0
  have hrI : ¬ ((rowOf e.k : Nat) : Int) < (asked : Int) := by omega
  rw [exV_out]
  go_enter Tryz.func48, Tryz.ntmps48
  go_upto_region 1 with fail
  generalize w.alloc (.cells #[.int .i64 e.k, .int .i64 e.n, stv e.nm, .slice ao e.kids.len cap, .int .i64 e.a] 25) = w0 at *
  generalize newLab w o 0 = o0 at *
  generalize w.heap.size = bx at *
  have T0 := st0
  clear st0 H S FX
  obtain ⟨p0, p1, p2, p3, p4, pf⟩ := box5 E0.1
  have c := rowOf_r e.k w0 FX0.op
  go_wp2_with fail
  refine c.mono ?_
  rintro y1 w1 ⟨rfl, b1⟩
  have st1 : Step I12 w0 o0 w1 o0 := Step.ofB o0 b1
  have H1 : WrS w1 o0 wb s := H0.step (Step.ofB (I := fun _ => False) o0 b1) id id
  have T1 := T0.trans st1
  have E1 := E0.stp st1
  have S1 := S0.stp st1
  have FX1 := FX0.stp st1
  clear c p0 p1 p2 p3 p4 pf T0 E0 S0 FX0 H0 st1 b1
  obtain ⟨p0, p1, p2, p3, p4, pf⟩ := box5 E1.1
  have c := callOf_r e.n w1 FX1.cl
  go_wp2_with fail
  refine c.mono ?_
  rintro y1 w0a ⟨rfl, b1⟩
  have st1 : Step I12 w1 o0 w0a o0 := Step.ofB o0 b1
  have H0a : WrS w0a o0 wb s := H1.step (Step.ofB (I := fun _ => False) o0 b1) id id
  have T0a := T1.trans st1
  have E0a := E1.stp st1
  have S0a := S1.stp st1
  have FX0a := FX1.stp st1
  clear c p0 p1 p2 p3 p4 pf T1 E1 S1 FX1 H1 st1 b1
  obtain ⟨p0, p1, p2, p3, p4, pf⟩ := box5 E0a.1
  have hq2 : callsL.find? (fun x => (x.2.1 : Int) == e.n) = some qx := hq
  rw [hq2]
  simp only [clF]
  go_upto_region 15 with fail
  have st2 := boxStep I12 w0a o0 (.cells #[stv qx.1, .int .i64 (qx.2.1 : Nat), .int .i64 (qx.2.2 : Nat)] 103)
  have Q2 := boxBlk w0a o0 #[stv qx.1, .int .i64 (qx.2.1 : Nat), .int .i64 (qx.2.2 : Nat)] 103
  have H2 : WrS _ _ wb s := H0a.step (boxStep (fun _ => False) w0a o0 (.cells #[stv qx.1, .int .i64 (qx.2.1 : Nat), .int .i64 (qx.2.2 : Nat)] 103)) id id
  have T2 := T0a.trans st2
  have E2 := E0a.stp st2
  have S2 := S0a.stp st2
  have FX2 := FX0a.stp st2
  clear p0 p1 p2 p3 p4 pf T0a E0a S0a FX0a H0a st2
  generalize w0a.alloc (.cells #[stv qx.1, .int .i64 (qx.2.1 : Nat), .int .i64 (qx.2.2 : Nat)] 103) = w2 at *
  generalize newLab w0a o0 0 = o2 at *
  generalize w0a.heap.size = qb at *
  obtain ⟨p0, p1, p2, p3, p4, pf⟩ := box5 E2.1
  obtain ⟨r0, r1, r2, rf⟩ := cells3k Q2.1
  have c := lay_r (qx.1) H2 (by have := F.t; have := hxl; omega)
  go_wp2_with fail
  refine c.mono ?_
  rintro y3 w3 ⟨rfl, o3, H3', st3⟩
  have H3 : WrS w3 o3 wb (s.lay (qx.1)) := H3'
  have T3 := T2.trans st3
  have E3 := E2.stp st3
  have S3 := S2.stp st3
  have FX3 := FX2.stp st3
  clear c p0 p1 p2 p3 p4 pf T2 E2 S2 FX2 H2 H3' st3
  obtain ⟨p0, p1, p2, p3, p4, pf⟩ := box5 E3.1
  have hc := list_w I0 e.kids ao cap wb [40] [41] (s.lay qx.1) w3 o3 (by omega) he.2 (by have := Fs.len_le_size e.kids; have := F.t; omega) (by simp) (by simp) FL FX3 S3 H3
  go_wp2_with fail
  refine hc.mono ?_
  rintro y2 w9 ⟨rfl, o9, H9, st9⟩
  have T9 := T3.trans st9
  clear hc T3 st9
  go_wp2
  go_end0
  exact ⟨rfl, o9, H9, T9⟩
/-- All that is laid with no parentheses of its own. -/
theorem part_low {N : Nat} (IH : PartOk N) (I0 : Part0 N) (e : Ex) (ao : Option Addr) (cap asked wb : Nat) (s : St) (w : World) (o : Nat → Nat) (hN : e.kids.size < N + 1) (he : e.okA) (hr : ¬ rowOf e.k < asked) (F : Fit1 e.kids.size s) (FX : FixW o w) (S : Sl w (L0 o) e.kids ao) (H : WrS w o wb s) :
    Calls Tryz.prog 48 #[.pointer (some ⟨wb, 0, none⟩), exV e ao cap, .int .i64 (asked : Nat)] w (PostS w o wb (wNode e.k e.n e.nm (kW e) s)) := by
  by_cases n7 : e.k = 7
  · exact part_7 IH e ao cap asked wb s w o hN he hr n7 F FX S H
  by_cases n6 : e.k = 6
  · exact part_6 IH e ao cap asked wb s w o hN he hr n6 F FX S H
  by_cases n19 : e.k = 19
  · exact part_19 IH e ao cap asked wb s w o hN he hr n19 F FX S H
  by_cases n21 : e.k = 21
  · exact part_21 IH e ao cap asked wb s w o hN he hr n21 F FX S H
  by_cases n20 : e.k = 20
  · exact part_20 IH e ao cap asked wb s w o hN he hr I0 n20 F FX S H
  by_cases n24 : e.k = 24
  · exact part_24 IH e ao cap asked wb s w o hN he hr I0 n24 F FX S H
  by_cases n25 : e.k = 25
  · exact part_25 IH e ao cap asked wb s w o hN he hr I0 n25 F FX S H
  exact part_d IH e ao cap asked wb s w o hN he hr n6 n7 n19 n20 n21 n24 n25 F FX S H
theorem part_zero {N : Nat} (IH : PartOk N) (I0 : Part0 N) : Part0 (N + 1) := fun e ao cap asked wb s w o h1 h2 h3 F FX S H => by
  have hr : ¬ rowOf e.k < asked := by omega
  have hw : wEx e asked s = wNode e.k e.n e.nm (kW e) s := by unfold wEx wE; rw [if_neg hr]
  rw [hw]
  exact part_low IH I0 e ao cap asked wb s w o h1 h2 hr F FX S H
end Go.Proofs.YtfpmaeflmboalaaGreatDoor
