/- Which kind a tree is of: plain. No program. -/
import Derived.Test.YtojleoionpnjpaaGreatDoorSzF
namespace Go.Proofs.YtojleoionpnjpaaGreatDoor
open Go.ChangeShapes Go.WideShapes Go.ChangeAt Go.RowKit
set_option linter.unusedVariables false
set_option linter.unusedSimpArgs false

theorem cells3k {w : World} {b : Nat} {a0 a1 a2 : Value} {t : TypeId} (h : w.heap[b]? = some (.cells #[a0, a1, a2] t (0, 0))) : w.cell? ⟨b, 0, none⟩ = some a0 ∧ w.cell? ⟨b, 1, none⟩ = some a1 ∧ w.cell? ⟨b, 2, none⟩ = some a2 ∧ ∀ j, w.frozen? ⟨b, j, none⟩ = false := by
  refine ⟨?_, ?_, ?_, fun j => frozen_of_row w b j _ t h⟩ <;> simp [cell_of_row w b _ _ t (0, 0) h]
theorem Fs.len_le_size : ∀ (f : Fs), f.len ≤ f.size
  | ⟨none⟩ => Nat.le_refl _
  | ⟨some ⟨k, n, nm, a, ks, r⟩⟩ => by have := Fs.len_le_size r; simp only [Fs.len, Fs.size]; omega
theorem Fit1.list {D : Nat} {s : St} (F : Fit1 D s) (x : List UInt8) (hx : x.length ≤ 20) : Fit D (s.lay x) := by
  obtain ⟨f1, f2, f3, f4, f5⟩ := F
  exact ⟨by simp only [St.lay, List.length_append]; omega, by simp only [St.lay]; omega, f3, by simp only [St.lay]; omega, f5⟩
set_option maxRecDepth 100000 in
theorem part_25 {N : Nat} (IH : PartOk N) (e : Ex) (ao : Option Addr) (cap asked wb : Nat) (s : St) (w : World) (o : Nat → Nat) (hN : e.kids.size < N + 1) (he : e.okA) (hr : ¬ rowOf e.k < asked) (I0 : Part0 N) (hk : e.k = 25) (F : Fit1 e.kids.size s) (FX : FixW o w) (S : Sl w (L0 o) e.kids ao) (H : WrS w o wb s) :
    Calls Tryz.prog 51 #[.pointer (some ⟨wb, 0, none⟩), exV e ao cap, .int .i64 (asked : Nat)] w (PostS w o wb (wNode e.k e.n e.nm (kW e) s)) := by
  have hw : wNode e.k e.n e.nm (kW e) s = wList [123] [125] (kW e) s := by simp [wNode, hk]
  rw [hw]
  have FL := F.list [] (by simp)
  rw [lay_nil] at FL
  have m7 : (e.k == 7) = false := bne (by omega)
  have m6 : (e.k == 6) = false := bne (by omega)
  have m19 : (e.k == 19) = false := bne (by omega)
  have m21 : (e.k == 21) = false := bne (by omega)
  have m20 : (e.k == 20) = false := bne (by omega)
  have m24 : (e.k == 24) = false := bne (by omega)
  have m25 : (e.k == 25) = true := by rw [beq_iff_eq]; exact hk
  clear hw hk
  have st0 := boxStep I12 w o (.cells #[.int .i64 e.k, .int .i64 e.n, stv e.nm, .slice ao e.kids.len cap, .int .i64 e.a] 25)
  have E0 := boxBlk w o #[.int .i64 e.k, .int .i64 e.n, stv e.nm, .slice ao e.kids.len cap, .int .i64 e.a] 25
  have H0 : WrS _ _ wb s := H.step (boxStep (fun _ => False) w o (.cells #[.int .i64 e.k, .int .i64 e.n, stv e.nm, .slice ao e.kids.len cap, .int .i64 e.a] 25)) id id
  have S0 := S.stp st0
  have FX0 := FX.stp st0
  have hrI : ¬ ((rowOf e.k : Nat) : Int) < (asked : Int) := by omega
  rw [exV_out]
  go_enter Tryz.func51, Tryz.ntmps51
  go_upto_region 1 with fail
  generalize w.alloc (.cells #[.int .i64 e.k, .int .i64 e.n, stv e.nm, .slice ao e.kids.len cap, .int .i64 e.a] 25) = w0 at *
  generalize newLab w o 0 = o0 at *
  generalize w.heap.size = bx at *
  have T0 := st0
  clear st0 H S FX
  obtain ⟨p0, p1, p2, p3, p4, pf⟩ := box5 E0.1
  have c := rowOf_r e.k w0 FX0.op
  go_wp2_with fail
  refine c.mono ?_
  rintro y1 w1 ⟨rfl, b1⟩
  have st1 : Step I12 w0 o0 w1 o0 := Step.ofB o0 b1
  have H1 : WrS w1 o0 wb s := H0.step (Step.ofB (I := fun _ => False) o0 b1) id id
  have T1 := T0.trans st1
  have E1 := E0.stp st1
  have S1 := S0.stp st1
  have FX1 := FX0.stp st1
  clear c p0 p1 p2 p3 p4 pf T0 E0 S0 FX0 H0 st1 b1
  obtain ⟨p0, p1, p2, p3, p4, pf⟩ := box5 E1.1
  obtain ⟨o1, ho1⟩ : ∃ z, z = o0 := ⟨_, rfl⟩
  rw [← ho1] at H1 T1 E1 S1 FX1
  clear ho1
  have hc := list_w I0 e.kids ao cap wb [123] [125] s w1 o1 (by omega) he.2 (by have := Fs.len_le_size e.kids; have := F.t; omega) (by simp) (by simp) FL FX1 S1 H1
  go_wp2_with fail
  refine hc.mono ?_
  rintro y2 w9 ⟨rfl, o9, H9, st9⟩
  have T9 := T1.trans st9
  clear hc T1 st9
  go_wp2
  go_end0
  exact ⟨rfl, o9, H9, T9⟩
set_option maxRecDepth 100000 in
theorem part_24 {N : Nat} (IH : PartOk N) (e : Ex) (ao : Option Addr) (cap asked wb : Nat) (s : St) (w : World) (o : Nat → Nat) (hN : e.kids.size < N + 1) (he : e.okA) (hr : ¬ rowOf e.k < asked) (I0 : Part0 N) (hk : e.k = 24) (F : Fit1 e.kids.size s) (FX : FixW o w) (S : Sl w (L0 o) e.kids ao) (H : WrS w o wb s) :
    Calls Tryz.prog 51 #[.pointer (some ⟨wb, 0, none⟩), exV e ao cap, .int .i64 (asked : Nat)] w (PostS w o wb (wNode e.k e.n e.nm (kW e) s)) := by
  have hw : wNode e.k e.n e.nm (kW e) s = wList [40] [41] (kW e) (s.lay [97, 114, 111, 117, 110, 100]) := by simp [wNode, hk]
  rw [hw]
  have hxl : ([97, 114, 111, 117, 110, 100] : List UInt8).length ≤ 20 := by simp
  have FL := F.list [97, 114, 111, 117, 110, 100] hxl
  have m7 : (e.k == 7) = false := bne (by omega)
  have m6 : (e.k == 6) = false := bne (by omega)
  have m19 : (e.k == 19) = false := bne (by omega)
  have m21 : (e.k == 21) = false := bne (by omega)
  have m20 : (e.k == 20) = false := bne (by omega)
  have m24 : (e.k == 24) = true := by rw [beq_iff_eq]; exact hk
  clear hw hk
  have st0 := boxStep I12 w o (.cells #[.int .i64 e.k, .int .i64 e.n, stv e.nm, .slice ao e.kids.len cap, .int .i64 e.a] 25)
  have E0 := boxBlk w o #[.int .i64 e.k, .int .i64 e.n, stv e.nm, .slice ao e.kids.len cap, .int .i64 e.a] 25
  have H0 : WrS _ _ wb s := H.step (boxStep (fun _ => False) w o (.cells #[.int .i64 e.k, .int .i64 e.n, stv e.nm, .slice ao e.kids.len cap, .int .i64 e.a] 25)) id id
  have S0 := S.stp st0
  have FX0 := FX.stp st0
  have hrI : ¬ ((rowOf e.k : Nat) : Int) < (asked : Int) := by omega
  rw [exV_out]
  go_enter Tryz.func51, Tryz.ntmps51
  go_upto_region 1 with fail
  generalize w.alloc (.cells #[.int .i64 e.k, .int .i64 e.n, stv e.nm, .slice ao e.kids.len cap, .int .i64 e.a] 25) = w0 at *
  generalize newLab w o 0 = o0 at *
  generalize w.heap.size = bx at *
  have T0 := st0
  clear st0 H S FX
  obtain ⟨p0, p1, p2, p3, p4, pf⟩ := box5 E0.1
  have c := rowOf_r e.k w0 FX0.op
  go_wp2_with fail
  refine c.mono ?_
  rintro y1 w1 ⟨rfl, b1⟩
  have st1 : Step I12 w0 o0 w1 o0 := Step.ofB o0 b1
  have H1 : WrS w1 o0 wb s := H0.step (Step.ofB (I := fun _ => False) o0 b1) id id
  have T1 := T0.trans st1
  have E1 := E0.stp st1
  have S1 := S0.stp st1
  have FX1 := FX0.stp st1
  clear c p0 p1 p2 p3 p4 pf T0 E0 S0 FX0 H0 st1 b1
  obtain ⟨p0, p1, p2, p3, p4, pf⟩ := box5 E1.1
  obtain ⟨o1, ho1⟩ : ∃ z, z = o0 := ⟨_, rfl⟩
  rw [← ho1] at H1 T1 E1 S1 FX1
  clear ho1
  have c := lay_r ([97, 114, 111, 117, 110, 100]) H1 (by have := F.t; have := hxl; omega)
  go_wp2_with fail
  refine c.mono ?_
  rintro y2 w2 ⟨rfl, o2, H2', st2⟩
  have H2 : WrS w2 o2 wb (s.lay ([97, 114, 111, 117, 110, 100])) := H2'
  have T2 := T1.trans st2
  have E2 := E1.stp st2
  have S2 := S1.stp st2
  have FX2 := FX1.stp st2
  clear c p0 p1 p2 p3 p4 pf T1 E1 S1 FX1 H1 H2' st2
  obtain ⟨p0, p1, p2, p3, p4, pf⟩ := box5 E2.1
  have hc := list_w I0 e.kids ao cap wb [40] [41] (s.lay [97, 114, 111, 117, 110, 100]) w2 o2 (by omega) he.2 (by have := Fs.len_le_size e.kids; have := F.t; omega) (by simp) (by simp) FL FX2 S2 H2
  go_wp2_with fail
  refine hc.mono ?_
  rintro y2 w9 ⟨rfl, o9, H9, st9⟩
  have T9 := T2.trans st9
  clear hc T2 st9
  go_wp2
  go_end0
  exact ⟨rfl, o9, H9, T9⟩
set_option maxRecDepth 100000 in
theorem part_20 {N : Nat} (IH : PartOk N) (e : Ex) (ao : Option Addr) (cap asked wb : Nat) (s : St) (w : World) (o : Nat → Nat) (hN : e.kids.size < N + 1) (he : e.okA) (hr : ¬ rowOf e.k < asked) (I0 : Part0 N) (hk : e.k = 20) (F : Fit1 e.kids.size s) (FX : FixW o w) (S : Sl w (L0 o) e.kids ao) (H : WrS w o wb s) :
    Calls Tryz.prog 51 #[.pointer (some ⟨wb, 0, none⟩), exV e ao cap, .int .i64 (asked : Nat)] w (PostS w o wb (wNode e.k e.n e.nm (kW e) s)) := by
  have hqs : (callOf e.n).isSome = true := by simpa [numB, hk] using he.1.1
  obtain ⟨qx, hq⟩ := Option.isSome_iff_exists.1 hqs
  have hcw : cword e.n = qx.1 := by unfold cword; rw [hq]
  have hw : wNode e.k e.n e.nm (kW e) s = wList [40] [41] (kW e) (s.lay qx.1) := by simp [wNode, hk, hcw]
  rw [hw]
  have hxl : qx.1.length ≤ 20 := by have := cword_len e.n; rw [hcw] at this; omega
  have FL := F.list qx.1 hxl
  have m7 : (e.k == 7) = false := bne (by omega)
  have m6 : (e.k == 6) = false := bne (by omega)
  have m19 : (e.k == 19) = false := bne (by omega)
  have m21 : (e.k == 21) = false := bne (by omega)
  have m20 : (e.k == 20) = true := by rw [beq_iff_eq]; exact hk
  clear hw hk hqs hcw
  have st0 := boxStep I12 w o (.cells #[.int .i64 e.k, .int .i64 e.n, stv e.nm, .slice ao e.kids.len cap, .int .i64 e.a] 25)
  have E0 := boxBlk w o #[.int .i64 e.k, .int .i64 e.n, stv e.nm, .slice ao e.kids.len cap, .int .i64 e.a] 25
  have H0 : WrS _ _ wb s := H.step (boxStep (fun _ => False) w o (.cells #[.int .i64 e.k, .int .i64 e.n, stv e.nm, .slice ao e.kids.len cap, .int .i64 e.a] 25)) id id
  have S0 := S.stp st0
  have FX0 := FX.stp st0
  have hrI : ¬ ((rowOf e.k : Nat) : Int) < (asked : Int) := by omega
  rw [exV_out]
  go_enter Tryz.func51, Tryz.ntmps51
  go_upto_region 1 with fail
  generalize w.alloc (.cells #[.int .i64 e.k, .int .i64 e.n, stv e.nm, .slice ao e.kids.len cap, .int .i64 e.a] 25) = w0 at *
  generalize newLab w o 0 = o0 at *
  generalize w.heap.size = bx at *
  have T0 := st0
  clear st0 H S FX
  obtain ⟨p0, p1, p2, p3, p4, pf⟩ := box5 E0.1
  have c := rowOf_r e.k w0 FX0.op
  go_wp2_with fail
  refine c.mono ?_
  rintro y1 w1 ⟨rfl, b1⟩
  have st1 : Step I12 w0 o0 w1 o0 := Step.ofB o0 b1
  have H1 : WrS w1 o0 wb s := H0.step (Step.ofB (I := fun _ => False) o0 b1) id id
  have T1 := T0.trans st1
  have E1 := E0.stp st1
  have S1 := S0.stp st1
  have FX1 := FX0.stp st1
  clear c p0 p1 p2 p3 p4 pf T0 E0 S0 FX0 H0 st1 b1
  obtain ⟨p0, p1, p2, p3, p4, pf⟩ := box5 E1.1
  have c := callOf_r e.n w1 FX1.cl
  go_wp2_with fail
  refine c.mono ?_
  rintro y1 w0a ⟨rfl, b1⟩
  have st1 : Step I12 w1 o0 w0a o0 := Step.ofB o0 b1
  have H0a : WrS w0a o0 wb s := H1.step (Step.ofB (I := fun _ => False) o0 b1) id id
  have T0a := T1.trans st1
  have E0a := E1.stp st1
  have S0a := S1.stp st1
  have FX0a := FX1.stp st1
  clear c p0 p1 p2 p3 p4 pf T1 E1 S1 FX1 H1 st1 b1
  obtain ⟨p0, p1, p2, p3, p4, pf⟩ := box5 E0a.1
  have hq2 : callsL.find? (fun x => (x.2.1 : Int) == e.n) = some qx := hq
  rw [hq2]
  simp only [clF]
  go_upto_region 15 with fail
  have st2 := boxStep I12 w0a o0 (.cells #[stv qx.1, .int .i64 (qx.2.1 : Nat), .int .i64 (qx.2.2 : Nat)] 116)
  have Q2 := boxBlk w0a o0 #[stv qx.1, .int .i64 (qx.2.1 : Nat), .int .i64 (qx.2.2 : Nat)] 116
  have H2 : WrS _ _ wb s := H0a.step (boxStep (fun _ => False) w0a o0 (.cells #[stv qx.1, .int .i64 (qx.2.1 : Nat), .int .i64 (qx.2.2 : Nat)] 116)) id id
  have T2 := T0a.trans st2
  have E2 := E0a.stp st2
  have S2 := S0a.stp st2
  have FX2 := FX0a.stp st2
  clear p0 p1 p2 p3 p4 pf T0a E0a S0a FX0a H0a st2
  generalize w0a.alloc (.cells #[stv qx.1, .int .i64 (qx.2.1 : Nat), .int .i64 (qx.2.2 : Nat)] 116) = w2 at *
  generalize newLab w0a o0 0 = o2 at *
  generalize w0a.heap.size = qb at *
  obtain ⟨p0, p1, p2, p3, p4, pf⟩ := box5 E2.1
  obtain ⟨r0, r1, r2, rf⟩ := cells3k Q2.1
  have c := lay_r (qx.1) H2 (by have := F.t; have := hxl; omega)
  go_wp2_with fail
  refine c.mono ?_
  rintro y3 w3 ⟨rfl, o3, H3', st3⟩
  have H3 : WrS w3 o3 wb (s.lay (qx.1)) := H3'
  have T3 := T2.trans st3
  have E3 := E2.stp st3
  have S3 := S2.stp st3
  have FX3 := FX2.stp st3
  clear c p0 p1 p2 p3 p4 pf T2 E2 S2 FX2 H2 H3' st3
  obtain ⟨p0, p1, p2, p3, p4, pf⟩ := box5 E3.1
  have hc := list_w I0 e.kids ao cap wb [40] [41] (s.lay qx.1) w3 o3 (by omega) he.2 (by have := Fs.len_le_size e.kids; have := F.t; omega) (by simp) (by simp) FL FX3 S3 H3
  go_wp2_with fail
  refine hc.mono ?_
  rintro y2 w9 ⟨rfl, o9, H9, st9⟩
  have T9 := T3.trans st9
  clear hc T3 st9
  go_wp2
  go_end0
  exact ⟨rfl, o9, H9, T9⟩
/-- All that is laid with no parentheses of its own. -/
theorem part_low {N : Nat} (IH : PartOk N) (I0 : Part0 N) (e : Ex) (ao : Option Addr) (cap asked wb : Nat) (s : St) (w : World) (o : Nat → Nat) (hN : e.kids.size < N + 1) (he : e.okA) (hr : ¬ rowOf e.k < asked) (F : Fit1 e.kids.size s) (FX : FixW o w) (S : Sl w (L0 o) e.kids ao) (H : WrS w o wb s) :
    Calls Tryz.prog 51 #[.pointer (some ⟨wb, 0, none⟩), exV e ao cap, .int .i64 (asked : Nat)] w (PostS w o wb (wNode e.k e.n e.nm (kW e) s)) := by
  by_cases n7 : e.k = 7
  · exact part_7 IH e ao cap asked wb s w o hN he hr n7 F FX S H
  by_cases n6 : e.k = 6
  · exact part_6 IH e ao cap asked wb s w o hN he hr n6 F FX S H
  by_cases n19 : e.k = 19
  · exact part_19 IH e ao cap asked wb s w o hN he hr n19 F FX S H
  by_cases n21 : e.k = 21
  · exact part_21 IH e ao cap asked wb s w o hN he hr n21 F FX S H
  by_cases n20 : e.k = 20
  · exact part_20 IH e ao cap asked wb s w o hN he hr I0 n20 F FX S H
  by_cases n24 : e.k = 24
  · exact part_24 IH e ao cap asked wb s w o hN he hr I0 n24 F FX S H
  by_cases n25 : e.k = 25
  · exact part_25 IH e ao cap asked wb s w o hN he hr I0 n25 F FX S H
  exact part_d IH e ao cap asked wb s w o hN he hr n6 n7 n19 n20 n21 n24 n25 F FX S H
theorem part_zero {N : Nat} (IH : PartOk N) (I0 : Part0 N) : Part0 (N + 1) := fun e ao cap asked wb s w o h1 h2 h3 F FX S H => by
  have hr : ¬ rowOf e.k < asked := by omega
  have hw : wEx e asked s = wNode e.k e.n e.nm (kW e) s := by unfold wEx wE; rw [if_neg hr]
  rw [hw]
  exact part_low IH I0 e ao cap asked wb s w o h1 h2 hr F FX S H
end Go.Proofs.YtojleoionpnjpaaGreatDoor
namespace Go.Proofs.YtojleoionpnjpaaGreatDoor
open Go.ChangeShapes Go.WideShapes Go.ChangeAt Go.RowKit
set_option linter.unusedVariables false
set_option linter.unusedSimpArgs false

theorem cells_at5 {w : World} {b : Nat} {a0 a1 a2 a3 a4 : Value} {t : TypeId} (h : w.heap[b]? = some (.cells #[a0, a1, a2, a3, a4] t (0, 0))) : ∀ j u, ([a0, a1, a2, a3, a4] : List Value)[j]? = some u → w.cell? ⟨b, 0 + j, none⟩ = some u := fun j u hu => by
  obtain ⟨c0, c1, c2, c3, c4, -⟩ := box5 h
  rw [Nat.zero_add]
  match j, hu with
  | 0, hu => simp at hu; rw [← hu]; exact c0
  | 1, hu => simp at hu; rw [← hu]; exact c1
  | 2, hu => simp at hu; rw [← hu]; exact c2
  | 3, hu => simp at hu; rw [← hu]; exact c3
  | 4, hu => simp at hu; rw [← hu]; exact c4
set_option maxRecDepth 100000 in
theorem part_par {N : Nat} (I0 : Part0 (N + 1)) (e : Ex) (ao : Option Addr) (cap asked wb : Nat) (s : St) (w : World) (o : Nat → Nat) (hN : e.kids.size < N + 1) (he : e.okA) (hr : rowOf e.k < asked) (F : Fit (e.kids.size + 1) s) (FX : FixW o w) (S : Sl w (L0 o) e.kids ao) (H : WrS w o wb s) :
    Calls Tryz.prog 51 #[.pointer (some ⟨wb, 0, none⟩), exV e ao cap, .int .i64 (asked : Nat)] w (PostS w o wb (wEx e asked s)) := by
  have hw : wEx e asked s = wList [40] [41] (fun g s => wFs (one e) g 0 s) s := by
    have h1 : wEx e 0 (s.ent.lay [40]) = wNode e.k e.n e.nm (kW e) (s.ent.lay [40]) := by unfold wEx wE; rw [if_neg (by omega)]
    have h2 : wFs (one e) comS 0 (s.ent.lay [40]) = wEx e 0 ((s.ent.lay [40]).lay []) := rfl
    unfold wList
    show wEx e asked s = ((wFs (one e) comS 0 (s.ent.lay [40])).lay [41]).lea
    rw [h2, lay_nil, h1]
    unfold wEx wE
    rw [if_pos hr]
  rw [hw]
  clear hw
  have st0 := boxStep I12 w o (.cells #[.int .i64 e.k, .int .i64 e.n, stv e.nm, .slice ao e.kids.len cap, .int .i64 e.a] 25)
  have E0 := boxBlk w o #[.int .i64 e.k, .int .i64 e.n, stv e.nm, .slice ao e.kids.len cap, .int .i64 e.a] 25
  have H0 : WrS _ _ wb s := H.step (boxStep (fun _ => False) w o (.cells #[.int .i64 e.k, .int .i64 e.n, stv e.nm, .slice ao e.kids.len cap, .int .i64 e.a] 25)) id id
  have S0 := S.stp st0
  have FX0 := FX.stp st0
  have hrI : ((rowOf e.k : Nat) : Int) < (asked : Int) := by omega
  rw [exV_out]
  go_enter Tryz.func51, Tryz.ntmps51
  go_upto_region 1 with fail
  generalize w.alloc (.cells #[.int .i64 e.k, .int .i64 e.n, stv e.nm, .slice ao e.kids.len cap, .int .i64 e.a] 25) = w0 at *
  generalize newLab w o 0 = o0 at *
  generalize w.heap.size = bx at *
  have T0 := st0
  clear st0 H S FX
  obtain ⟨p0, p1, p2, p3, p4, pf⟩ := box5 E0.1
  have c := rowOf_r e.k w0 FX0.op
  go_wp2_with fail
  refine c.mono ?_
  rintro y1 w1 ⟨rfl, b1⟩
  have st1 : Step I12 w0 o0 w1 o0 := Step.ofB o0 b1
  have H1 : WrS w1 o0 wb s := H0.step (Step.ofB (I := fun _ => False) o0 b1) id id
  have T1 := T0.trans st1
  have E1 := E0.stp st1
  have S1 := S0.stp st1
  have FX1 := FX0.stp st1
  clear c p0 p1 p2 p3 p4 pf T0 E0 S0 FX0 H0 st1 b1
  obtain ⟨p0, p1, p2, p3, p4, pf⟩ := box5 E1.1
  have st2 := boxStep I12 w1 o0 (.cells #[.int .i64 e.k, .int .i64 e.n, stv e.nm, .slice ao e.kids.len cap, .int .i64 e.a] 25)
  have E2 := boxBlk w1 o0 #[.int .i64 e.k, .int .i64 e.n, stv e.nm, .slice ao e.kids.len cap, .int .i64 e.a] 25
  have H2 : WrS _ _ wb s := H1.step (boxStep (fun _ => False) w1 o0 (.cells #[.int .i64 e.k, .int .i64 e.n, stv e.nm, .slice ao e.kids.len cap, .int .i64 e.a] 25)) id id
  have S2 := S1.stp st2
  have FX2 := FX1.stp st2
  have T2 := T1.trans st2
  have SL : Sl (w1.alloc (.cells #[.int .i64 e.k, .int .i64 e.n, stv e.nm, .slice ao e.kids.len cap, .int .i64 e.a] 25)) (L0 (newLab w1 o0 0)) (one e) (some ⟨w1.heap.size, 0, none⟩) := .inr ⟨w1.heap.size, 0, _, rfl, E2.2, E2.lt, cells_at5 E2.1, Fc.one cap S2⟩
  have hc := list_w I0 (one e) (some ⟨w1.heap.size, 0, none⟩) 1 wb [40] [41] s _ _ (by show e.kids.size + 0 + 1 ≤ _; omega) ⟨he.1, he.2, trivial⟩ (by show 0 + 1 ≤ _; omega) (by simp) (by simp) F FX2 SL H2
  clear T1 E1 S1 FX1 H1 st2 E2 H2 S2 FX2 SL
  have hc1 : (one e).len = 1 := rfl
  rw [hc1] at hc
  clear hc1
  go_wp2_with fail
  refine hc.mono ?_
  rintro y2 w9 ⟨rfl, o9, H9, st9⟩
  have T9 := T2.trans st9
  clear hc T2 st9
  go_wp2
  first | go_end0 | go_ret
  exact ⟨rfl, o9, H9, T9⟩
theorem part_both : ∀ N, PartOk N ∧ Part0 N
  | 0 => ⟨fun e ao cap asked wb s w o h => absurd h (Nat.not_lt_zero _), fun e ao cap asked wb s w o h => absurd h (Nat.not_lt_zero _)⟩
  | N + 1 => by
    obtain ⟨IH, I0⟩ := part_both N
    have J0 := part_zero IH I0
    refine ⟨fun e ao cap asked wb s w o h1 h2 h3 F FX S H => ?_, J0⟩
    by_cases hr : rowOf e.k < asked
    · exact part_par J0 e ao cap asked wb s w o h1 h2 hr F FX S H
    · have hw : wEx e asked s = wNode e.k e.n e.nm (kW e) s := by unfold wEx wE; rw [if_neg hr]
      rw [hw]
      exact part_low IH I0 e ao cap asked wb s w o h1 h2 hr F.one FX S H
end Go.Proofs.YtojleoionpnjpaaGreatDoor
namespace Go.Proofs.YtojleoionpnjpaaGreatDoor
set_option linter.unusedVariables false
set_option linter.unusedSimpArgs false

/-- Numbers fit. -/
def Fs.rng : Fs → Prop
  | ⟨none⟩ => True
  | ⟨some ⟨_, n, _, _, ks, r⟩⟩ => -9223372036854775808 ≤ n ∧ n ≤ 9223372036854775807 ∧ ks.rng ∧ r.rng
/-- A tree as the program can hold it. -/
structure Ex.fit (e : Ex) : Prop where
  nm : e.nm.length ≤ maxLen
  sh : e.kids.short
  len : e.kids.len ≤ 1000000000
  n1 : -9223372036854775808 ≤ e.n
  n2 : e.n ≤ 9223372036854775807
  rng : e.kids.rng
theorem nameB_len {t : List UInt8} (h : nameB t = true) : t.length ≤ 12 := by
  cases t with
  | nil => simp
  | cons c r =>
    simp only [nameB, Bool.and_eq_true, decide_eq_true_eq] at h
    have := h.1.1.1
    simp only [List.length_cons]
    omega
theorem namB_len {k : Int} {nm : List UInt8} (h : namB k nm = true) : nm.length ≤ 12 := by
  unfold namB at h
  split at h
  · exact nameB_len h
  · have : nm = [] := by simpa using h
    rw [this]
    simp
theorem okP_of {k n : Int} {nm : List UInt8} {m : Nat} (h : (numB k n && namB k nm && kidB k n m) = true) (h1 : -9223372036854775808 ≤ n) (h2 : n ≤ 9223372036854775807) : okP k n nm m := by
  simp only [Bool.and_eq_true] at h
  exact ⟨h.1.1, h.1.2, h.2, namB_len h.1.2, h1, h2⟩
theorem hFs_ok : ∀ (f : Fs) (b : Bool) (c c' : Nat), f.rng → hFs f b c = some c' → f.okA ∧ c' = c + f.size
  | ⟨none⟩, b, c, c', hr, h => by
    unfold hFs at h
    injection h with h
    exact ⟨trivial, h.symm⟩
  | ⟨some ⟨k, n, nm, a, ks, r⟩⟩, b, c, c', hr, h => by
    unfold hFs at h
    split at h
    · cases h
    · split at h
      · cases h
      · split at h
        · rename_i hk
          split at h
          · cases h
          · rename_i c2 h2
            obtain ⟨o1, e1⟩ := hFs_ok ks _ (c + 1) c2 hr.2.2.1 h2
            obtain ⟨o2, e2⟩ := hFs_ok r false c2 c' hr.2.2.2 h
            exact ⟨⟨okP_of hk hr.1 hr.2.1, o1, o2⟩, by simp only [Fs.size]; omega⟩
        · cases h
theorem hE_ok {e : Ex} {c c' : Nat} (hf : e.fit) (h : hE e c = some c') : e.okA ∧ c' = c + 1 + e.kids.size ∧ c' ≤ 2000 := by
  have hle := hE_le h
  unfold hE at h
  split at h
  · cases h
  · split at h
    · rename_i hk
      obtain ⟨o1, e1⟩ := hFs_ok e.kids _ (c + 1) c' hf.rng h
      exact ⟨⟨okP_of hk hf.n1 hf.n2, o1⟩, e1, hle⟩
    · cases h
def s0 : St := ⟨[], 0, 0, 0, 0⟩
/-- Has what is laid room? -/
def roomB (s : St) : Bool := !(decide (2000 < s.t.length) || decide (64 < s.m) || decide (4 < s.n))
/-- The text of a tree, if it is right. -/
def writA (e : Ex) : Option (List UInt8) :=
  if isSetK e.k then none
  else match hE e 0 with
    | none => none
    | some _ => if roomB (wEx e 0 s0) then some (wEx e 0 s0).t else none
end Go.Proofs.YtojleoionpnjpaaGreatDoor
namespace Go.Proofs.YtojleoionpnjpaaGreatDoor
set_option linter.unusedVariables false
set_option linter.unusedSimpArgs false

/-- Kinds that are fixed: those of the kids, and behind them the part's own; [] where they are not. -/
def fixL (k n : Int) : List Int :=
  if k = 1 then [1] else if k = 2 then [2] else if k = 3 ∨ k = 4 then [3] else if k = 6 then [1, 1] else if k = 7 then [2, 2]
  else if 8 ≤ k ∧ k ≤ 12 then [1, 1, 1] else if k = 15 ∨ k = 16 then [1, 1, 2] else if k = 17 ∨ k = 18 then [2, 2, 2]
  else if k = 22 ∨ k = 23 then [4] else if k = 24 then [3, 4]
  else if k = 20 then (if n = 1 ∨ n = 2 then [3, 3, 2] else if n = 3 then [3, 3, 1] else if n = 10 then [3, 3] else [3, 1])
  else if k = 21 then (if n = 1 ∨ n = 2 then [4, 2, 2] else if n = 3 then [4, 2, 1] else [4, 1, 1])
  else []
/-- What the next kid must be, or what the part is: so many kids are done, of these kinds. -/
def ruleT (k n : Int) (len : Nat) (done : List Int) : Int :=
  if k = 13 ∨ k = 14 then (match done with | [] => 0 | [a] => a | _ => 2)
  else if k = 19 then (match done with | [] => 2 | [_] => 0 | _ :: b :: _ => b)
  else if k = 25 then (if done.length < len then 3 else 4)
  else (fixL k n)[done.length]?.getD 0
/-- What a kid of so much comes to, where a kind may be asked of it. -/
def mustT (m : Int) (a : Int) (r : Sum (Nat × Int) Int) : Sum (Nat × Int) Int :=
  match r with
  | .inl e => .inl e
  | .inr is => if m ≠ 0 ∧ is ≠ m then .inl (131, a) else .inr is
/-- The kids of a part, one by one: the first thing that is wrong and its place, or their kinds. -/
def chkFs : Fs → Int → Int → List UInt8 → Nat → List (List UInt8) → Nat → List Int → Sum (Nat × Int) (List Int)
  | ⟨none⟩, _, _, _, _, _, _, done => .inr done
  | ⟨some ⟨kk, kn, km, ka, kks, kr⟩⟩, k, n, nm, len, bound, i, done =>
    match mustT (ruleT k n len done) ka (if kk = 4 ∧ ¬ km ∈ (if k = 21 ∧ i ≠ 0 then bound ++ [nm] else bound) then .inl (130, ka) else
      match chkFs kks kk kn km kks.len (if k = 21 ∧ i ≠ 0 then bound ++ [nm] else bound) 0 [] with
      | .inl e => .inl e
      | .inr d => .inr (ruleT kk kn kks.len d)) with
    | .inl e => .inl e
    | .inr is => chkFs kr k n nm len bound (i + 1) (done ++ [is])
def chkE (e : Ex) (bound : List (List UInt8)) : Sum (Nat × Int) Int :=
  if e.k = 4 ∧ ¬ e.nm ∈ bound then .inl (130, e.a) else
    match chkFs e.kids e.k e.n e.nm e.kids.len bound 0 [] with
    | .inl x => .inl x
    | .inr d => .inr (ruleT e.k e.n e.kids.len d)
theorem chk_ex (x : Ex) (r : Fs) (k n : Int) (nm : List UInt8) (len : Nat) (bound : List (List UInt8)) (i : Nat) (done : List Int) :
    chkFs (.cons x.k x.n x.nm x.a x.kids r) k n nm len bound i done = (match mustT (ruleT k n len done) x.a (chkE x (if k = 21 ∧ i ≠ 0 then bound ++ [nm] else bound)) with
      | .inl e => .inl e
      | .inr is => chkFs r k n nm len bound (i + 1) (done ++ [is])) := rfl
/-- What Check answers: kind, error, place. -/
def typA (e : Ex) : Int × Nat × Int :=
  match writA e with
  | none => (0, 122, 0)
  | some _ =>
    match chkE e [] with
    | .inl (er, a) => (0, er, a)
    | .inr k => (k, 0, 0)
/-- All places turned. -/
def Fs.pl (g : Int → Int) : Fs → Fs
  | ⟨none⟩ => .nil
  | ⟨some ⟨k, n, nm, a, ks, r⟩⟩ => .cons k n nm (g a) (Fs.pl g ks) (Fs.pl g r)
def Ex.pl (g : Int → Int) (e : Ex) : Ex := ⟨e.k, e.n, e.nm, g e.a, e.kids.pl g⟩
theorem chkFs_er : ∀ (f : Fs) (k n : Int) (nm : List UInt8) (len : Nat) (bound : List (List UInt8)) (i : Nat) (done : List Int) (er : Nat) (a : Int), chkFs f k n nm len bound i done = .inl (er, a) → er = 130 ∨ er = 131
  | ⟨none⟩, k, n, nm, len, bound, i, done, er, a, h => by simp only [chkFs] at h; cases h
  | ⟨some ⟨kk, kn, km, ka, kks, kr⟩⟩, k, n, nm, len, bound, i, done, er, a, h => by
    simp only [chkFs] at h
    by_cases hv : kk = 4 ∧ ¬ km ∈ (if k = 21 ∧ i ≠ 0 then bound ++ [nm] else bound)
    · rw [if_pos hv] at h
      simp only [mustT, Sum.inl.injEq, Prod.mk.injEq] at h
      omega
    · rw [if_neg hv] at h
      cases hc : chkFs kks kk kn km kks.len (if k = 21 ∧ i ≠ 0 then bound ++ [nm] else bound) 0 [] with
      | inl x =>
        obtain ⟨er2, a2⟩ := x
        rw [hc] at h
        simp only [mustT, Sum.inl.injEq, Prod.mk.injEq] at h
        have := chkFs_er kks _ _ _ _ _ _ _ er2 a2 hc
        omega
      | inr d =>
        rw [hc] at h
        simp only [mustT] at h
        by_cases hm : ruleT k n len done ≠ 0 ∧ ruleT kk kn kks.len d ≠ ruleT k n len done
        · rw [if_pos hm] at h
          simp only [Sum.inl.injEq, Prod.mk.injEq] at h
          omega
        · rw [if_neg hm] at h
          exact chkFs_er kr _ _ _ _ _ _ _ er a h
theorem chkE_er {e : Ex} {bound : List (List UInt8)} {er : Nat} {a : Int} (h : chkE e bound = .inl (er, a)) : er = 130 ∨ er = 131 := by
  unfold chkE at h
  by_cases hv : e.k = 4 ∧ ¬ e.nm ∈ bound
  · rw [if_pos hv] at h
    simp only [Sum.inl.injEq, Prod.mk.injEq] at h
    omega
  · rw [if_neg hv] at h
    cases hc : chkFs e.kids e.k e.n e.nm e.kids.len bound 0 [] with
    | inl x =>
      obtain ⟨er2, a2⟩ := x
      rw [hc] at h
      simp only [Sum.inl.injEq, Prod.mk.injEq] at h
      have := chkFs_er _ _ _ _ _ _ _ _ er2 a2 hc
      omega
    | inr d => rw [hc] at h; cases h
end Go.Proofs.YtojleoionpnjpaaGreatDoor
