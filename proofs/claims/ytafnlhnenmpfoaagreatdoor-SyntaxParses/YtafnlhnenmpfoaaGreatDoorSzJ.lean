/- The text of a tree, if it is right: written, Print, Right. -/
import Derived.Test.YtafnlhnenmpfoaaGreatDoorSzF
import Derived.Laws.BytesArg
namespace Go.Proofs.YtafnlhnenmpfoaaGreatDoor
open Go.ChangeShapes Go.WideShapes Go.ChangeAt Go.RowKit
set_option linter.unusedVariables false
set_option linter.unusedSimpArgs false

theorem cells3k {w : World} {b : Nat} {a0 a1 a2 : Value} {t : TypeId} (h : w.heap[b]? = some (.cells #[a0, a1, a2] t (0, 0))) : w.cell? ⟨b, 0, none⟩ = some a0 ∧ w.cell? ⟨b, 1, none⟩ = some a1 ∧ w.cell? ⟨b, 2, none⟩ = some a2 ∧ ∀ j, w.frozen? ⟨b, j, none⟩ = false := by
  refine ⟨?_, ?_, ?_, fun j => frozen_of_row w b j _ t h⟩ <;> simp [cell_of_row w b _ _ t (0, 0) h]
theorem Fs.len_le_size : ∀ (f : Fs), f.len ≤ f.size
  | ⟨none⟩ => Nat.le_refl _
  | ⟨some ⟨k, n, nm, a, ks, r⟩⟩ => by have := Fs.len_le_size r; simp only [Fs.len, Fs.size]; omega
theorem Fit1.list {D : Nat} {s : St} (F : Fit1 D s) (x : List UInt8) (hx : x.length ≤ 20) : Fit D (s.lay x) := by
  obtain ⟨f1, f2, f3, f4, f5⟩ := F
  exact ⟨by simp only [St.lay, List.length_append]; omega, by simp only [St.lay]; omega, f3, by simp only [St.lay]; omega, f5⟩
set_option maxRecDepth 100000 in
theorem part_25 {N : Nat} (IH : PartOk N) (e : Ex) (ao : Option Addr) (cap asked wb : Nat) (s : St) (w : World) (o : Nat → Nat) (hN : e.kids.size < N + 1) (he : e.okA) (hr : ¬ rowOf e.k < asked) (I0 : Part0 N) (hk : e.k = 25) (F : Fit1 e.kids.size s) (FX : FixW o w) (S : Sl w (L0 o) e.kids ao) (H : WrS w o wb s) :
    Calls Tryz.prog 62 #[.pointer (some ⟨wb, 0, none⟩), exV e ao cap, .int .i64 (asked : Nat)] w (PostS w o wb (wNode e.k e.n e.nm (kW e) s)) := by
  have hw : wNode e.k e.n e.nm (kW e) s = wList [123] [125] (kW e) s := by simp [wNode, hk]
  rw [hw]
  have FL := F.list [] (by simp)
  rw [lay_nil] at FL
  have m7 : (e.k == 7) = false := bne (by omega)
  have m6 : (e.k == 6) = false := bne (by omega)
  have m19 : (e.k == 19) = false := bne (by omega)
  have m21 : (e.k == 21) = false := bne (by omega)
  have m20 : (e.k == 20) = false := bne (by omega)
  have m24 : (e.k == 24) = false := bne (by omega)
  have m25 : (e.k == 25) = true := by rw [beq_iff_eq]; exact hk
  clear hw hk
  have st0 := boxStep I12 w o (.cells #[.int .i64 e.k, .int .i64 e.n, stv e.nm, .slice ao e.kids.len cap, .int .i64 e.a] 25)
  have E0 := boxBlk w o #[.int .i64 e.k, .int .i64 e.n, stv e.nm, .slice ao e.kids.len cap, .int .i64 e.a] 25
  have H0 : WrS _ _ wb s := H.step (boxStep (fun _ => False) w o (.cells #[.int .i64 e.k, .int .i64 e.n, stv e.nm, .slice ao e.kids.len cap, .int .i64 e.a] 25)) id id
  have S0 := S.stp st0
  have FX0 := FX.stp st0
  have hrI : ¬ ((rowOf e.k : Nat) : Int) < (asked : Int) := by omega
  rw [exV_out]
  go_enter Tryz.func62, Tryz.ntmps62
  go_upto_region 1 with fail
  generalize w.alloc (.cells #[.int .i64 e.k, .int .i64 e.n, stv e.nm, .slice ao e.kids.len cap, .int .i64 e.a] 25) = w0 at *
  generalize newLab w o 0 = o0 at *
  generalize w.heap.size = bx at *
  have T0 := st0
  clear st0 H S FX
  obtain ⟨p0, p1, p2, p3, p4, pf⟩ := box5 E0.1
  have c := rowOf_r e.k w0 FX0.op
  go_wp2_with fail
  refine c.mono ?_
  rintro y1 w1 ⟨rfl, b1⟩
  have st1 : Step I12 w0 o0 w1 o0 := Step.ofB o0 b1
  have H1 : WrS w1 o0 wb s := H0.step (Step.ofB (I := fun _ => False) o0 b1) id id
  have T1 := T0.trans st1
  have E1 := E0.stp st1
  have S1 := S0.stp st1
  have FX1 := FX0.stp st1
  clear c p0 p1 p2 p3 p4 pf T0 E0 S0 FX0 H0 st1 b1
  obtain ⟨p0, p1, p2, p3, p4, pf⟩ := box5 E1.1
  obtain ⟨o1, ho1⟩ : ∃ z, z = o0 := ⟨_, rfl⟩
  rw [← ho1] at H1 T1 E1 S1 FX1
  clear ho1
  have hc := list_w I0 e.kids ao cap wb [123] [125] s w1 o1 (by omega) he.2 (by have := Fs.len_le_size e.kids; have := F.t; omega) (by simp) (by simp) FL FX1 S1 H1
  go_wp2_with fail
  refine hc.mono ?_
  rintro y2 w9 ⟨rfl, o9, H9, st9⟩
  have T9 := T1.trans st9
  clear hc T1 st9
  go_wp2
  go_end0
  exact ⟨rfl, o9, H9, T9⟩
set_option maxRecDepth 100000 in
theorem part_24 {N : Nat} (IH : PartOk N) (e : Ex) (ao : Option Addr) (cap asked wb : Nat) (s : St) (w : World) (o : Nat → Nat) (hN : e.kids.size < N + 1) (he : e.okA) (hr : ¬ rowOf e.k < asked) (I0 : Part0 N) (hk : e.k = 24) (F : Fit1 e.kids.size s) (FX : FixW o w) (S : Sl w (L0 o) e.kids ao) (H : WrS w o wb s) :
    Calls Tryz.prog 62 #[.pointer (some ⟨wb, 0, none⟩), exV e ao cap, .int .i64 (asked : Nat)] w (PostS w o wb (wNode e.k e.n e.nm (kW e) s)) := by
  have hw : wNode e.k e.n e.nm (kW e) s = wList [40] [41] (kW e) (s.lay [97, 114, 111, 117, 110, 100]) := by simp [wNode, hk]
  rw [hw]
  have hxl : ([97, 114, 111, 117, 110, 100] : List UInt8).length ≤ 20 := by simp
  have FL := F.list [97, 114, 111, 117, 110, 100] hxl
  have m7 : (e.k == 7) = false := bne (by omega)
  have m6 : (e.k == 6) = false := bne (by omega)
  have m19 : (e.k == 19) = false := bne (by omega)
  have m21 : (e.k == 21) = false := bne (by omega)
  have m20 : (e.k == 20) = false := bne (by omega)
  have m24 : (e.k == 24) = true := by rw [beq_iff_eq]; exact hk
  clear hw hk
  have st0 := boxStep I12 w o (.cells #[.int .i64 e.k, .int .i64 e.n, stv e.nm, .slice ao e.kids.len cap, .int .i64 e.a] 25)
  have E0 := boxBlk w o #[.int .i64 e.k, .int .i64 e.n, stv e.nm, .slice ao e.kids.len cap, .int .i64 e.a] 25
  have H0 : WrS _ _ wb s := H.step (boxStep (fun _ => False) w o (.cells #[.int .i64 e.k, .int .i64 e.n, stv e.nm, .slice ao e.kids.len cap, .int .i64 e.a] 25)) id id
  have S0 := S.stp st0
  have FX0 := FX.stp st0
  have hrI : ¬ ((rowOf e.k : Nat) : Int) < (asked : Int) := by omega
  rw [exV_out]
  go_enter Tryz.func62, Tryz.ntmps62
  go_upto_region 1 with fail
  generalize w.alloc (.cells #[.int .i64 e.k, .int .i64 e.n, stv e.nm, .slice ao e.kids.len cap, .int .i64 e.a] 25) = w0 at *
  generalize newLab w o 0 = o0 at *
  generalize w.heap.size = bx at *
  have T0 := st0
  clear st0 H S FX
  obtain ⟨p0, p1, p2, p3, p4, pf⟩ := box5 E0.1
  have c := rowOf_r e.k w0 FX0.op
  go_wp2_with fail
  refine c.mono ?_
  rintro y1 w1 ⟨rfl, b1⟩
  have st1 : Step I12 w0 o0 w1 o0 := Step.ofB o0 b1
  have H1 : WrS w1 o0 wb s := H0.step (Step.ofB (I := fun _ => False) o0 b1) id id
  have T1 := T0.trans st1
  have E1 := E0.stp st1
  have S1 := S0.stp st1
  have FX1 := FX0.stp st1
  clear c p0 p1 p2 p3 p4 pf T0 E0 S0 FX0 H0 st1 b1
  obtain ⟨p0, p1, p2, p3, p4, pf⟩ := box5 E1.1
  obtain ⟨o1, ho1⟩ : ∃ z, z = o0 := ⟨_, rfl⟩
  rw [← ho1] at H1 T1 E1 S1 FX1
  clear ho1
  have c := lay_r ([97, 114, 111, 117, 110, 100]) H1 (by have := F.t; have := hxl; omega)
  go_wp2_with fail
  refine c.mono ?_
  rintro y2 w2 ⟨rfl, o2, H2', st2⟩
  have H2 : WrS w2 o2 wb (s.lay ([97, 114, 111, 117, 110, 100])) := H2'
  have T2 := T1.trans st2
  have E2 := E1.stp st2
  have S2 := S1.stp st2
  have FX2 := FX1.stp st2
  clear c p0 p1 p2 p3 p4 pf T1 E1 S1 FX1 H1 H2' st2
  obtain ⟨p0, p1, p2, p3, p4, pf⟩ := box5 E2.1
  have hc := list_w I0 e.kids ao cap wb [40] [41] (s.lay [97, 114, 111, 117, 110, 100]) w2 o2 (by omega) he.2 (by have := Fs.len_le_size e.kids; have := F.t; omega) (by simp) (by simp) FL FX2 S2 H2
  go_wp2_with fail
  refine hc.mono ?_
  rintro y2 w9 ⟨rfl, o9, H9, st9⟩
  have T9 := T2.trans st9
  clear hc T2 st9
  go_wp2
  go_end0
  exact ⟨rfl, o9, H9, T9⟩
set_option maxRecDepth 100000 in
theorem part_20 {N : Nat} (IH : PartOk N) (e : Ex) (ao : Option Addr) (cap asked wb : Nat) (s : St) (w : World) (o : Nat → Nat) (hN : e.kids.size < N + 1) (he : e.okA) (hr : ¬ rowOf e.k < asked) (I0 : Part0 N) (hk : e.k = 20) (F : Fit1 e.kids.size s) (FX : FixW o w) (S : Sl w (L0 o) e.kids ao) (H : WrS w o wb s) :
    Calls Tryz.prog 62 #[.pointer (some ⟨wb, 0, none⟩), exV e ao cap, .int .i64 (asked : Nat)] w (PostS w o wb (wNode e.k e.n e.nm (kW e) s)) := by
  have hqs : (callOf e.n).isSome = true := by simpa [numB, hk] using he.1.1
  obtain ⟨qx, hq⟩ := Option.isSome_iff_exists.1 hqs
  have hcw : cword e.n = qx.1 := by unfold cword; rw [hq]
  have hw : wNode e.k e.n e.nm (kW e) s = wList [40] [41] (kW e) (s.lay qx.1) := by simp [wNode, hk, hcw]
  rw [hw]
  have hxl : qx.1.length ≤ 20 := by have := cword_len e.n; rw [hcw] at this; omega
  have FL := F.list qx.1 hxl
  have m7 : (e.k == 7) = false := bne (by omega)
  have m6 : (e.k == 6) = false := bne (by omega)
  have m19 : (e.k == 19) = false := bne (by omega)
  have m21 : (e.k == 21) = false := bne (by omega)
  have m20 : (e.k == 20) = true := by rw [beq_iff_eq]; exact hk
  clear hw hk hqs hcw
  have st0 := boxStep I12 w o (.cells #[.int .i64 e.k, .int .i64 e.n, stv e.nm, .slice ao e.kids.len cap, .int .i64 e.a] 25)
  have E0 := boxBlk w o #[.int .i64 e.k, .int .i64 e.n, stv e.nm, .slice ao e.kids.len cap, .int .i64 e.a] 25
  have H0 : WrS _ _ wb s := H.step (boxStep (fun _ => False) w o (.cells #[.int .i64 e.k, .int .i64 e.n, stv e.nm, .slice ao e.kids.len cap, .int .i64 e.a] 25)) id id
  have S0 := S.stp st0
  have FX0 := FX.stp st0
  have hrI : ¬ ((rowOf e.k : Nat) : Int) < (asked : Int) := by omega
  rw [exV_out]
  go_enter Tryz.func62, Tryz.ntmps62
  go_upto_region 1 with fail
  generalize w.alloc (.cells #[.int .i64 e.k, .int .i64 e.n, stv e.nm, .slice ao e.kids.len cap, .int .i64 e.a] 25) = w0 at *
  generalize newLab w o 0 = o0 at *
  generalize w.heap.size = bx at *
  have T0 := st0
  clear st0 H S FX
  obtain ⟨p0, p1, p2, p3, p4, pf⟩ := box5 E0.1
  have c := rowOf_r e.k w0 FX0.op
  go_wp2_with fail
  refine c.mono ?_
  rintro y1 w1 ⟨rfl, b1⟩
  have st1 : Step I12 w0 o0 w1 o0 := Step.ofB o0 b1
  have H1 : WrS w1 o0 wb s := H0.step (Step.ofB (I := fun _ => False) o0 b1) id id
  have T1 := T0.trans st1
  have E1 := E0.stp st1
  have S1 := S0.stp st1
  have FX1 := FX0.stp st1
  clear c p0 p1 p2 p3 p4 pf T0 E0 S0 FX0 H0 st1 b1
  obtain ⟨p0, p1, p2, p3, p4, pf⟩ := box5 E1.1
  have c := callOf_r e.n w1 FX1.cl
  go_wp2_with fail
  refine c.mono ?_
  rintro y1 w0a ⟨rfl, b1⟩
  have st1 : Step I12 w1 o0 w0a o0 := Step.ofB o0 b1
  have H0a : WrS w0a o0 wb s := H1.step (Step.ofB (I := fun _ => False) o0 b1) id id
  have T0a := T1.trans st1
  have E0a := E1.stp st1
  have S0a := S1.stp st1
  have FX0a := FX1.stp st1
  clear c p0 p1 p2 p3 p4 pf T1 E1 S1 FX1 H1 st1 b1
  obtain ⟨p0, p1, p2, p3, p4, pf⟩ := box5 E0a.1
  have hq2 : callsL.find? (fun x => (x.2.1 : Int) == e.n) = some qx := hq
  rw [hq2]
  simp only [clF]
  go_upto_region 15 with fail
  have st2 := boxStep I12 w0a o0 (.cells #[stv qx.1, .int .i64 (qx.2.1 : Nat), .int .i64 (qx.2.2 : Nat)] 121)
  have Q2 := boxBlk w0a o0 #[stv qx.1, .int .i64 (qx.2.1 : Nat), .int .i64 (qx.2.2 : Nat)] 121
  have H2 : WrS _ _ wb s := H0a.step (boxStep (fun _ => False) w0a o0 (.cells #[stv qx.1, .int .i64 (qx.2.1 : Nat), .int .i64 (qx.2.2 : Nat)] 121)) id id
  have T2 := T0a.trans st2
  have E2 := E0a.stp st2
  have S2 := S0a.stp st2
  have FX2 := FX0a.stp st2
  clear p0 p1 p2 p3 p4 pf T0a E0a S0a FX0a H0a st2
  generalize w0a.alloc (.cells #[stv qx.1, .int .i64 (qx.2.1 : Nat), .int .i64 (qx.2.2 : Nat)] 121) = w2 at *
  generalize newLab w0a o0 0 = o2 at *
  generalize w0a.heap.size = qb at *
  obtain ⟨p0, p1, p2, p3, p4, pf⟩ := box5 E2.1
  obtain ⟨r0, r1, r2, rf⟩ := cells3k Q2.1
  have c := lay_r (qx.1) H2 (by have := F.t; have := hxl; omega)
  go_wp2_with fail
  refine c.mono ?_
  rintro y3 w3 ⟨rfl, o3, H3', st3⟩
  have H3 : WrS w3 o3 wb (s.lay (qx.1)) := H3'
  have T3 := T2.trans st3
  have E3 := E2.stp st3
  have S3 := S2.stp st3
  have FX3 := FX2.stp st3
  clear c p0 p1 p2 p3 p4 pf T2 E2 S2 FX2 H2 H3' st3
  obtain ⟨p0, p1, p2, p3, p4, pf⟩ := box5 E3.1
  have hc := list_w I0 e.kids ao cap wb [40] [41] (s.lay qx.1) w3 o3 (by omega) he.2 (by have := Fs.len_le_size e.kids; have := F.t; omega) (by simp) (by simp) FL FX3 S3 H3
  go_wp2_with fail
  refine hc.mono ?_
  rintro y2 w9 ⟨rfl, o9, H9, st9⟩
  have T9 := T3.trans st9
  clear hc T3 st9
  go_wp2
  go_end0
  exact ⟨rfl, o9, H9, T9⟩
/-- All that is laid with no parentheses of its own. -/
theorem part_low {N : Nat} (IH : PartOk N) (I0 : Part0 N) (e : Ex) (ao : Option Addr) (cap asked wb : Nat) (s : St) (w : World) (o : Nat → Nat) (hN : e.kids.size < N + 1) (he : e.okA) (hr : ¬ rowOf e.k < asked) (F : Fit1 e.kids.size s) (FX : FixW o w) (S : Sl w (L0 o) e.kids ao) (H : WrS w o wb s) :
    Calls Tryz.prog 62 #[.pointer (some ⟨wb, 0, none⟩), exV e ao cap, .int .i64 (asked : Nat)] w (PostS w o wb (wNode e.k e.n e.nm (kW e) s)) := by
  by_cases n7 : e.k = 7
  · exact part_7 IH e ao cap asked wb s w o hN he hr n7 F FX S H
  by_cases n6 : e.k = 6
  · exact part_6 IH e ao cap asked wb s w o hN he hr n6 F FX S H
  by_cases n19 : e.k = 19
  · exact part_19 IH e ao cap asked wb s w o hN he hr n19 F FX S H
  by_cases n21 : e.k = 21
  · exact part_21 IH e ao cap asked wb s w o hN he hr n21 F FX S H
  by_cases n20 : e.k = 20
  · exact part_20 IH e ao cap asked wb s w o hN he hr I0 n20 F FX S H
  by_cases n24 : e.k = 24
  · exact part_24 IH e ao cap asked wb s w o hN he hr I0 n24 F FX S H
  by_cases n25 : e.k = 25
  · exact part_25 IH e ao cap asked wb s w o hN he hr I0 n25 F FX S H
  exact part_d IH e ao cap asked wb s w o hN he hr n6 n7 n19 n20 n21 n24 n25 F FX S H
theorem part_zero {N : Nat} (IH : PartOk N) (I0 : Part0 N) : Part0 (N + 1) := fun e ao cap asked wb s w o h1 h2 h3 F FX S H => by
  have hr : ¬ rowOf e.k < asked := by omega
  have hw : wEx e asked s = wNode e.k e.n e.nm (kW e) s := by unfold wEx wE; rw [if_neg hr]
  rw [hw]
  exact part_low IH I0 e ao cap asked wb s w o h1 h2 hr F FX S H
end Go.Proofs.YtafnlhnenmpfoaaGreatDoor
namespace Go.Proofs.YtafnlhnenmpfoaaGreatDoor
open Go.ChangeShapes Go.WideShapes Go.ChangeAt Go.RowKit
set_option linter.unusedVariables false
set_option linter.unusedSimpArgs false

theorem cells_at5 {w : World} {b : Nat} {a0 a1 a2 a3 a4 : Value} {t : TypeId} (h : w.heap[b]? = some (.cells #[a0, a1, a2, a3, a4] t (0, 0))) : ∀ j u, ([a0, a1, a2, a3, a4] : List Value)[j]? = some u → w.cell? ⟨b, 0 + j, none⟩ = some u := fun j u hu => by
  obtain ⟨c0, c1, c2, c3, c4, -⟩ := box5 h
  rw [Nat.zero_add]
  match j, hu with
  | 0, hu => simp at hu; rw [← hu]; exact c0
  | 1, hu => simp at hu; rw [← hu]; exact c1
  | 2, hu => simp at hu; rw [← hu]; exact c2
  | 3, hu => simp at hu; rw [← hu]; exact c3
  | 4, hu => simp at hu; rw [← hu]; exact c4
set_option maxRecDepth 100000 in
theorem part_par {N : Nat} (I0 : Part0 (N + 1)) (e : Ex) (ao : Option Addr) (cap asked wb : Nat) (s : St) (w : World) (o : Nat → Nat) (hN : e.kids.size < N + 1) (he : e.okA) (hr : rowOf e.k < asked) (F : Fit (e.kids.size + 1) s) (FX : FixW o w) (S : Sl w (L0 o) e.kids ao) (H : WrS w o wb s) :
    Calls Tryz.prog 62 #[.pointer (some ⟨wb, 0, none⟩), exV e ao cap, .int .i64 (asked : Nat)] w (PostS w o wb (wEx e asked s)) := by
  have hw : wEx e asked s = wList [40] [41] (fun g s => wFs (one e) g 0 s) s := by
    have h1 : wEx e 0 (s.ent.lay [40]) = wNode e.k e.n e.nm (kW e) (s.ent.lay [40]) := by unfold wEx wE; rw [if_neg (by omega)]
    have h2 : wFs (one e) comS 0 (s.ent.lay [40]) = wEx e 0 ((s.ent.lay [40]).lay []) := rfl
    unfold wList
    show wEx e asked s = ((wFs (one e) comS 0 (s.ent.lay [40])).lay [41]).lea
    rw [h2, lay_nil, h1]
    unfold wEx wE
    rw [if_pos hr]
  rw [hw]
  clear hw
  have st0 := boxStep I12 w o (.cells #[.int .i64 e.k, .int .i64 e.n, stv e.nm, .slice ao e.kids.len cap, .int .i64 e.a] 25)
  have E0 := boxBlk w o #[.int .i64 e.k, .int .i64 e.n, stv e.nm, .slice ao e.kids.len cap, .int .i64 e.a] 25
  have H0 : WrS _ _ wb s := H.step (boxStep (fun _ => False) w o (.cells #[.int .i64 e.k, .int .i64 e.n, stv e.nm, .slice ao e.kids.len cap, .int .i64 e.a] 25)) id id
  have S0 := S.stp st0
  have FX0 := FX.stp st0
  have hrI : ((rowOf e.k : Nat) : Int) < (asked : Int) := by omega
  rw [exV_out]
  go_enter Tryz.func62, Tryz.ntmps62
  go_upto_region 1 with fail
  generalize w.alloc (.cells #[.int .i64 e.k, .int .i64 e.n, stv e.nm, .slice ao e.kids.len cap, .int .i64 e.a] 25) = w0 at *
  generalize newLab w o 0 = o0 at *
  generalize w.heap.size = bx at *
  have T0 := st0
  clear st0 H S FX
  obtain ⟨p0, p1, p2, p3, p4, pf⟩ := box5 E0.1
  have c := rowOf_r e.k w0 FX0.op
  go_wp2_with fail
  refine c.mono ?_
  rintro y1 w1 ⟨rfl, b1⟩
  have st1 : Step I12 w0 o0 w1 o0 := Step.ofB o0 b1
  have H1 : WrS w1 o0 wb s := H0.step (Step.ofB (I := fun _ => False) o0 b1) id id
  have T1 := T0.trans st1
  have E1 := E0.stp st1
  have S1 := S0.stp st1
  have FX1 := FX0.stp st1
  clear c p0 p1 p2 p3 p4 pf T0 E0 S0 FX0 H0 st1 b1
  obtain ⟨p0, p1, p2, p3, p4, pf⟩ := box5 E1.1
  have st2 := boxStep I12 w1 o0 (.cells #[.int .i64 e.k, .int .i64 e.n, stv e.nm, .slice ao e.kids.len cap, .int .i64 e.a] 25)
  have E2 := boxBlk w1 o0 #[.int .i64 e.k, .int .i64 e.n, stv e.nm, .slice ao e.kids.len cap, .int .i64 e.a] 25
  have H2 : WrS _ _ wb s := H1.step (boxStep (fun _ => False) w1 o0 (.cells #[.int .i64 e.k, .int .i64 e.n, stv e.nm, .slice ao e.kids.len cap, .int .i64 e.a] 25)) id id
  have S2 := S1.stp st2
  have FX2 := FX1.stp st2
  have T2 := T1.trans st2
  have SL : Sl (w1.alloc (.cells #[.int .i64 e.k, .int .i64 e.n, stv e.nm, .slice ao e.kids.len cap, .int .i64 e.a] 25)) (L0 (newLab w1 o0 0)) (one e) (some ⟨w1.heap.size, 0, none⟩) := .inr ⟨w1.heap.size, 0, _, rfl, E2.2, E2.lt, cells_at5 E2.1, Fc.one cap S2⟩
  have hc := list_w I0 (one e) (some ⟨w1.heap.size, 0, none⟩) 1 wb [40] [41] s _ _ (by show e.kids.size + 0 + 1 ≤ _; omega) ⟨he.1, he.2, trivial⟩ (by show 0 + 1 ≤ _; omega) (by simp) (by simp) F FX2 SL H2
  clear T1 E1 S1 FX1 H1 st2 E2 H2 S2 FX2 SL
  have hc1 : (one e).len = 1 := rfl
  rw [hc1] at hc
  clear hc1
  go_wp2_with fail
  refine hc.mono ?_
  rintro y2 w9 ⟨rfl, o9, H9, st9⟩
  have T9 := T2.trans st9
  clear hc T2 st9
  go_wp2
  first | go_end0 | go_ret
  exact ⟨rfl, o9, H9, T9⟩
theorem part_both : ∀ N, PartOk N ∧ Part0 N
  | 0 => ⟨fun e ao cap asked wb s w o h => absurd h (Nat.not_lt_zero _), fun e ao cap asked wb s w o h => absurd h (Nat.not_lt_zero _)⟩
  | N + 1 => by
    obtain ⟨IH, I0⟩ := part_both N
    have J0 := part_zero IH I0
    refine ⟨fun e ao cap asked wb s w o h1 h2 h3 F FX S H => ?_, J0⟩
    by_cases hr : rowOf e.k < asked
    · exact part_par J0 e ao cap asked wb s w o h1 h2 hr F FX S H
    · have hw : wEx e asked s = wNode e.k e.n e.nm (kW e) s := by unfold wEx wE; rw [if_neg hr]
      rw [hw]
      exact part_low IH I0 e ao cap asked wb s w o h1 h2 hr F.one FX S H
end Go.Proofs.YtafnlhnenmpfoaaGreatDoor
namespace Go.Proofs.YtafnlhnenmpfoaaGreatDoor
set_option linter.unusedVariables false
set_option linter.unusedSimpArgs false

/-- Numbers fit. -/
def Fs.rng : Fs → Prop
  | ⟨none⟩ => True
  | ⟨some ⟨_, n, _, _, ks, r⟩⟩ => -9223372036854775808 ≤ n ∧ n ≤ 9223372036854775807 ∧ ks.rng ∧ r.rng
/-- A tree as the program can hold it. -/
structure Ex.fit (e : Ex) : Prop where
  nm : e.nm.length ≤ maxLen
  sh : e.kids.short
  len : e.kids.len ≤ 1000000000
  n1 : -9223372036854775808 ≤ e.n
  n2 : e.n ≤ 9223372036854775807
  rng : e.kids.rng
theorem nameB_len {t : List UInt8} (h : nameB t = true) : t.length ≤ 12 := by
  cases t with
  | nil => simp
  | cons c r =>
    simp only [nameB, Bool.and_eq_true, decide_eq_true_eq] at h
    have := h.1.1.1
    simp only [List.length_cons]
    omega
theorem namB_len {k : Int} {nm : List UInt8} (h : namB k nm = true) : nm.length ≤ 12 := by
  unfold namB at h
  split at h
  · exact nameB_len h
  · have : nm = [] := by simpa using h
    rw [this]
    simp
theorem okP_of {k n : Int} {nm : List UInt8} {m : Nat} (h : (numB k n && namB k nm && kidB k n m) = true) (h1 : -9223372036854775808 ≤ n) (h2 : n ≤ 9223372036854775807) : okP k n nm m := by
  simp only [Bool.and_eq_true] at h
  exact ⟨h.1.1, h.1.2, h.2, namB_len h.1.2, h1, h2⟩
theorem hFs_ok : ∀ (f : Fs) (b : Bool) (c c' : Nat), f.rng → hFs f b c = some c' → f.okA ∧ c' = c + f.size
  | ⟨none⟩, b, c, c', hr, h => by
    unfold hFs at h
    injection h with h
    exact ⟨trivial, h.symm⟩
  | ⟨some ⟨k, n, nm, a, ks, r⟩⟩, b, c, c', hr, h => by
    unfold hFs at h
    split at h
    · cases h
    · split at h
      · cases h
      · split at h
        · rename_i hk
          split at h
          · cases h
          · rename_i c2 h2
            obtain ⟨o1, e1⟩ := hFs_ok ks _ (c + 1) c2 hr.2.2.1 h2
            obtain ⟨o2, e2⟩ := hFs_ok r false c2 c' hr.2.2.2 h
            exact ⟨⟨okP_of hk hr.1 hr.2.1, o1, o2⟩, by simp only [Fs.size]; omega⟩
        · cases h
theorem hE_ok {e : Ex} {c c' : Nat} (hf : e.fit) (h : hE e c = some c') : e.okA ∧ c' = c + 1 + e.kids.size ∧ c' ≤ 2000 := by
  have hle := hE_le h
  unfold hE at h
  split at h
  · cases h
  · split at h
    · rename_i hk
      obtain ⟨o1, e1⟩ := hFs_ok e.kids _ (c + 1) c' hf.rng h
      exact ⟨⟨okP_of hk hf.n1 hf.n2, o1⟩, e1, hle⟩
    · cases h
def s0 : St := ⟨[], 0, 0, 0, 0⟩
/-- Has what is laid room? -/
def roomB (s : St) : Bool := !(decide (2000 < s.t.length) || decide (64 < s.m) || decide (4 < s.n))
/-- The text of a tree, if it is right. -/
def writA (e : Ex) : Option (List UInt8) :=
  if isSetK e.k then none
  else match hE e 0 with
    | none => none
    | some _ => if roomB (wEx e 0 s0) then some (wEx e 0 s0).t else none
end Go.Proofs.YtafnlhnenmpfoaaGreatDoor
namespace Go.Proofs.YtafnlhnenmpfoaaGreatDoor
open Go.ChangeShapes Go.WideShapes Go.ChangeAt Go.RowKit
set_option linter.unusedVariables false
set_option linter.unusedSimpArgs false

/-- A tree in memory. -/
abbrev SlT (w : World) (f : Fs) (ao : Option Addr) : Prop := Sl w (fun _ => True) f ao
theorem SlT.below {w w' : World} {f : Fs} {ao : Option Addr} (h : SlT w f ao) (b : Below w.heap.size w w') : SlT w' f ao := h.mono (fun i _ hl => b.block i hl) b.size (fun _ h _ => h)
theorem SlT.nf {w : World} {f : Fs} {ao : Option Addr} {fb : Nat} (h : SlT w f ao) (hb : w.heap.size ≤ fb) : Sl w (Nf fb) f ao := h.mono (fun i _ hl => rfl) (Nat.le_refl _) (fun i _ hl => by show i ≠ fb; omega)
theorem Sl.all {P : Nat → Prop} {w : World} {f : Fs} {ao : Option Addr} (h : Sl w P f ao) : SlT w f ao := h.mono (fun i _ hl => rfl) (Nat.le_refl _) (fun _ _ _ => trivial)
/-- All that lies fast. -/
structure FixT (w : World) : Prop where
  fx : Fix w
  p : P10 w
theorem FixT.below {w w' : World} (h : FixT w) (b : Below w.heap.size w w') : FixT w' := ⟨h.fx.below b, h.p.below b⟩
theorem Fix.k {w : World} (h : Fix w) {fb : Nat} (hb : w.heap.size ≤ fb) : FixK fb w :=
  ⟨h, Nat.lt_of_lt_of_le h.wd.lt hb, Nat.lt_of_lt_of_le h.tb.1.lt hb, Nat.lt_of_lt_of_le h.tb.2.1.lt hb, Nat.lt_of_lt_of_le h.tb.2.2.lt hb⟩
theorem p10_lt {w : World} (h : P10 w) : 6 < w.heap.size := (p10_blk h (w' := w) (fun _ => rfl)).2
/-- The bytes of a row, as a text. -/
theorem row_text {w : World} {o : Nat → Nat} {i : Nat} {v : Value} {l : List UInt8} (h : Row w o i 5 1 v l.length (byL l)) :
    (convert 88 9 v).run Tryz.prog w = .ok (stv l) w := by
  rcases Nat.eq_zero_or_pos l.length with h0 | h0
  · obtain rfl : l = [] := List.length_eq_zero_iff.1 h0
    obtain ⟨ao, cap, rfl⟩ := h.form
    cases ao with
    | none => exact run_convert_bytes_nil (P := Tryz.prog) w 88 5 Tryz.underlying88 Tryz.underlying5 _ _ 9 Tryz.underlying9
    | some a => exact run_convert_bytes_back w 88 9 5 a cap [] Tryz.underlying88 Tryz.underlying5 Tryz.underlying9 (fun j hj => by simp at hj)
  · obtain ⟨g, cap, rfl, -, -, -, -, hc, -⟩ := h.pos h0
    refine run_convert_bytes_back w 88 9 5 ⟨g, 0, none⟩ cap l Tryz.underlying88 Tryz.underlying5 Tryz.underlying9 (fun j hj => ?_)
    have := hc j (by omega)
    rw [show (⟨g, 0, none⟩ : Addr).add j = ⟨g, j, none⟩ by simp [Addr.add]; intro h; exact h.symm, this]
    simp [byL, hj]
/-- What written answers. -/
def PostT (w : World) (r : Option (List UInt8)) (x : Ending) (w' : World) : Prop := x = .returned (.tuple #[stv (r.getD []), .bool r.isSome]) ∧ Below w.heap.size w w'
set_option maxRecDepth 100000 in
set_option maxHeartbeats 1000000 in
theorem written_r (e : Ex) (ao : Option Addr) (cap : Nat) (w : World) (hf : e.fit) (FX : FixT w) (S : SlT w e.kids ao) :
    Calls Tryz.prog 31 #[exV e ao cap] w (PostT w (writA e)) := by
  obtain ⟨W, hW⟩ : ∃ W, W = writA e := ⟨_, rfl⟩
  rw [← hW]
  have HW : Hid (W = writA e) := hW
  clear hW
  have B0 : Below w.heap.size w (w.alloc (.cells #[.int .i64 e.k, .int .i64 e.n, stv e.nm, .slice ao e.kids.len cap, .int .i64 e.a] 25)) := (Below.refl _ w).alloc (Nat.le_refl _) _
  have E0 : (w.alloc (.cells #[.int .i64 e.k, .int .i64 e.n, stv e.nm, .slice ao e.kids.len cap, .int .i64 e.a] 25)).heap[w.heap.size]? = some (.cells #[.int .i64 e.k, .int .i64 e.n, stv e.nm, .slice ao e.kids.len cap, .int .i64 e.a] 25) := heap_alloc_new w _
  have S0 := S.below B0
  have FX0 := FX.below B0
  rw [exV_out]
  go_enter Tryz.func31, Tryz.ntmps31
  go_upto_region 1 with fail
  generalize w.alloc (.cells #[.int .i64 e.k, .int .i64 e.n, stv e.nm, .slice ao e.kids.len cap, .int .i64 e.a] 25) = w0 at *
  obtain ⟨bx, hbx⟩ : ∃ bx, bx = w.heap.size := ⟨_, rfl⟩
  rw [← hbx] at E0 B0 ⊢
  have HB : Hid (bx = w.heap.size) := hbx
  clear hbx
  obtain ⟨p0, p1, p2, p3, p4, pf⟩ := box5 E0
  have c1 := isSet_r e.k e.n e.nm ao e.kids.len cap e.a w0
  go_wp2_with fail
  refine c1.mono ?_
  rintro x w1 ⟨rfl, b1⟩
  clear c1 p0 p1 p2 p3 p4 pf
  have l0 := lt_of_block E0
  have B1 := B0.trans (b1.mono (by omega))
  have E1 := (b1.block _ l0).trans E0
  have S1 := S0.below b1
  have FX1 := FX0.below b1
  clear b1 B0 E0 S0 FX0 l0
  cases hset : isSetK e.k with
  | true =>
    have FIN : Hid (W = none) := by show W = _; rw [HW.out]; simp [writA, hset]
    clear HW
    go_wp2
    go_ret2
    rw [FIN.out]
    exact ⟨rfl, by rw [← HB.out]; exact B1⟩
  | false =>
  have b2 : Below w1.heap.size w1 (w1.alloc (.cells #[.int .i64 0] 100)) := (Below.refl _ w1).alloc (Nat.le_refl _) _
  have k2 : Keep w1.heap.size w1 (w1.alloc (.cells #[.int .i64 0] 100)) := (Keep.refl _ w1).alloc _
  have F2 : (w1.alloc (.cells #[.int .i64 0] 100)).heap[w1.heap.size]? = some (.cells #[.int .i64 ((0 : Nat) : Int)] 100 (0, 0)) := heap_alloc_new w1 _
  have c2 := holds_ok (e.kids.size + 1) e ao cap w1.heap.size 0 _ (by omega) hf.nm hf.sh hf.len (by omega) ((FX1.fx.k (Nat.le_refl _)).keep k2) ((SlT.nf S1 (Nat.le_refl _)).keepF k2) F2
  rw [exV_out] at c2
  have B2 := B1.trans (b2.mono (by have := lt_of_block E1; omega))
  have E2 := (b2.block _ (lt_of_block E1)).trans E1
  have S2 := SlT.below S1 b2
  have FX2 := FX1.below b2
  have hlt1 := lt_of_block E1
  have hfb := lt_of_block F2
  obtain ⟨p0, p1, p2, p3, p4, pf⟩ := box5 E1
  have HS : Hid (isSetK e.k = false) := hset
  clear hset
  go_wp2_with fail
  refine c2.mono ?_
  rintro x w3 hP
  clear c2 p0 p1 p2 p3 p4 pf F2 k2 E1 S1 FX1 B1
  generalize w1.alloc (.cells #[.int .i64 0] 100) = w2 at *
  cases hr : hE e 0 with
  | none =>
    rw [hr] at hP
    obtain ⟨rfl, k3⟩ := hP
    have B3 : Below bx w w3 := B2.trans (k3.below (by omega) hfb)
    have FIN : Hid (W = none) := by show W = _; rw [HW.out]; simp [writA, HS.out, hr]
    clear HW hr
    go_wp2
    go_ret2
    rw [FIN.out]
    exact ⟨rfl, by rw [← HB.out]; exact B3⟩
  | some c =>
  rw [hr] at hP
  obtain ⟨rfl, F3, k3⟩ := hP
  obtain ⟨hok, hc1, hc2⟩ := hE_ok hf hr
  have B3 : Below bx w w3 := B2.trans (k3.below (by omega) hfb)
  have E3 := k3.blk E2 (by omega)
  have S3 : SlT w3 e.kids ao := SlT.below S (by rw [← HB.out]; exact B3)
  have FX3 : FixT w3 := FX.below (by rw [← HB.out]; exact B3)
  obtain ⟨w4, hw4⟩ : ∃ w4, w4 = w3.alloc (.cells #[.slice none 0 0, .int .i64 0, .int .i64 0, .int .i64 0, .int .i64 0] 105) := ⟨_, rfl⟩
  obtain ⟨o4, ho4⟩ : ∃ o4 : Nat → Nat, o4 = fun k => if k = w3.heap.size then 1 else 0 := ⟨_, rfl⟩
  have b4 : Below w3.heap.size w3 w4 := by rw [hw4]; exact (Below.refl _ w3).alloc (Nat.le_refl _) _
  have L4 : ∀ k, k < w3.heap.size → o4 k = 0 := fun k hk => by rw [ho4]; simp only; rw [if_neg (by omega)]
  have l3 := lt_of_block E3
  have E4 : Blk w4 o4 0 bx (.cells #[.int .i64 e.k, .int .i64 e.n, stv e.nm, .slice ao e.kids.len cap, .int .i64 e.a] 25) := ⟨(b4.block _ l3).trans E3, L4 _ l3⟩
  have FX4 : FixW o4 w4 := by
    have h := FX3.below b4
    exact ⟨h.fx.tb.1, h.fx.tb.2.1, h.fx.tb.2.2, h.p, L4 _ FX3.fx.tb.1.lt, L4 _ FX3.fx.tb.2.1.lt, L4 _ FX3.fx.tb.2.2.lt, L4 _ (p10_lt FX3.p)⟩
  have S4 : Sl w4 (L0 o4) e.kids ao := S3.mono (fun i _ hl => b4.block i hl) b4.size (fun i _ hl => L4 i hl)
  have H4 : WrS w4 o4 w3.heap.size s0 := ⟨.slice none 0 0, ⟨by rw [hw4]; exact heap_alloc_new w3 _, by rw [ho4]; simp⟩, Row.nil _ _ _ _ _⟩
  have B4 : Below bx w w4 := B3.trans (b4.mono (by omega))
  have LB : Hid (∀ k, k < bx → o4 k = 0) := fun k hk => L4 k (by omega)
  have hfit : Fit (e.kids.size + 1) s0 := ⟨by simp only [s0, List.length_nil]; omega, by simp only [s0]; omega, by simp only [s0]; omega, by simp only [s0]; omega, by simp only [s0]; omega⟩
  have c4 := (part_both (e.kids.size + 1)).1 e ao cap 0 w3.heap.size s0 w4 o4 (by omega) hok (by omega) hfit FX4 S4 H4
  rw [exV_out] at c4
  have HR : Hid (∃ c, hE e 0 = some c) := ⟨c, hr⟩
  clear hr hok hc1 hc2 FX3 S3 b4 L4 E3 B3 F3 k3 H4 FX4 S4 E2 S2 FX2 B2 b2 hlt1 hfb ho4
  go_upto_region 4 with fail
  rw [← hw4]
  generalize w3.heap.size = wb at *
  clear hw4
  obtain ⟨p0, p1, p2, p3, p4, pf⟩ := box5 E4.1
  go_wp2_with fail
  refine c4.mono ?_
  rintro x w5 ⟨rfl, o5, H5, st5⟩
  clear c4 p0 p1 p2 p3 p4 pf
  have B5 : Below bx w w5 := ⟨st5.os.trans B4.os, st5.tape.trans B4.tape, st5.output.trans B4.output, Nat.le_trans B4.size st5.size, fun k hk => (st5.block k (by have := E4.lt; omega) (by rw [LB.out k hk]; simp [I12])).trans (B4.block k hk)⟩
  obtain ⟨s, hs⟩ : ∃ s, s = wEx e 0 s0 := ⟨_, rfl⟩
  have HSt : Hid (s = wEx e 0 s0) := hs
  rw [← hs] at H5
  clear hs E4 B4 LB st5
  obtain ⟨v5, hb5, hr5⟩ := H5
  obtain ⟨a5, c5, rfl⟩ := hr5.form
  obtain ⟨q0, q1, q2, q3, q4, qf⟩ := Blk.cells5 hb5
  have hconv := row_text hr5
  obtain ⟨tl, htl⟩ : ∃ tl, tl = s.t.length := ⟨_, rfl⟩
  have HT : Hid (tl = s.t.length) := htl
  rw [← htl] at q0 hconv
  clear htl hb5 hr5
  by_cases g1 : 2000 < tl
  · have g1I : (2000 : Int) < (tl : Int) := by omega
    have FIN : Hid (W = none) := by
      obtain ⟨c, hr⟩ := HR.out
      show W = _
      rw [HW.out]
      have : roomB (wEx e 0 s0) = false := by rw [← HSt.out]; simp [roomB, ← HT.out, g1]
      simp [writA, HS.out, hr, this]
    clear HW HR HSt HT
    go_wp2
    go_ret2
    rw [FIN.out]
    exact ⟨rfl, by rw [← HB.out]; exact B5⟩
  have g1I : ¬ (2000 : Int) < (tl : Int) := by omega
  by_cases g2 : 64 < s.m
  · have g2I : (64 : Int) < (s.m : Int) := by omega
    have FIN : Hid (W = none) := by
      obtain ⟨c, hr⟩ := HR.out
      show W = _
      rw [HW.out]
      have : roomB (wEx e 0 s0) = false := by rw [← HSt.out]; simp [roomB, g2]
      simp [writA, HS.out, hr, this]
    clear HW HR HSt HT
    go_wp2
    go_ret2
    rw [FIN.out]
    exact ⟨rfl, by rw [← HB.out]; exact B5⟩
  have g2I : ¬ (64 : Int) < (s.m : Int) := by omega
  by_cases g3 : 4 < s.n
  · have g3I : (4 : Int) < (s.n : Int) := by omega
    have FIN : Hid (W = none) := by
      obtain ⟨c, hr⟩ := HR.out
      show W = _
      rw [HW.out]
      have : roomB (wEx e 0 s0) = false := by rw [← HSt.out]; simp [roomB, g3]
      simp [writA, HS.out, hr, this]
    clear HW HR HSt HT
    go_wp2
    go_ret2
    rw [FIN.out]
    exact ⟨rfl, by rw [← HB.out]; exact B5⟩
  have g3I : ¬ (4 : Int) < (s.n : Int) := by omega
  have FIN : Hid (W = some s.t) := by
    obtain ⟨c, hr⟩ := HR.out
    show W = _
    rw [HW.out]
    have : roomB (wEx e 0 s0) = true := by rw [← HSt.out]; simp [roomB, ← HT.out]; omega
    rw [show writA e = some (wEx e 0 s0).t by simp [writA, HS.out, hr, this], HSt.out]
  clear HW HR HSt HT
  go_wp2
  go_ret2
  rw [FIN.out]
  exact ⟨rfl, by rw [← HB.out]; exact B5⟩
/-- What Print answers. -/
def PostP (w : World) (r : Option (List UInt8)) (x : Ending) (w' : World) : Prop := x = .returned (.tuple #[stv (r.getD []), .int .i64 (if r.isSome then 0 else 122)]) ∧ Below w.heap.size w w'
set_option maxRecDepth 100000 in
theorem print_r (e : Ex) (ao : Option Addr) (cap : Nat) (w : World) (hf : e.fit) (FX : FixT w) (S : SlT w e.kids ao) :
    Calls Tryz.prog 19 #[exV e ao cap] w (PostP w (writA e)) := by
  have B0 : Below w.heap.size w (w.alloc (.cells #[.int .i64 e.k, .int .i64 e.n, stv e.nm, .slice ao e.kids.len cap, .int .i64 e.a] 25)) := (Below.refl _ w).alloc (Nat.le_refl _) _
  have hs0 : w.heap.size ≤ (w.alloc (.cells #[.int .i64 e.k, .int .i64 e.n, stv e.nm, .slice ao e.kids.len cap, .int .i64 e.a] 25)).heap.size := B0.size
  have c1 := written_r e ao cap _ hf (FX.below B0) (SlT.below S B0)
  rw [exV_out] at c1 ⊢
  generalize writA e = W at *
  go_enter Tryz.func19, Tryz.ntmps19
  go_wp2_with fail
  refine c1.mono ?_
  rintro x w1 ⟨rfl, b1⟩
  have B1 := B0.trans (b1.mono hs0)
  clear c1 b1 B0
  cases W with
  | none =>
    simp only [Option.getD, Option.isSome]
    go_wp2
    go_ret2
    exact ⟨rfl, B1⟩
  | some t =>
    simp only [Option.getD, Option.isSome]
    go_wp2
    go_ret2
    exact ⟨rfl, B1⟩
end Go.Proofs.YtafnlhnenmpfoaaGreatDoor
