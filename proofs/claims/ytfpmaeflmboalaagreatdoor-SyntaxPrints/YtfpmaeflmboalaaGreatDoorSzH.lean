/- The writer's part, whole. -/
import Derived.Test.YtfpmaeflmboalaaGreatDoorSzG
namespace Go.Proofs.YtfpmaeflmboalaaGreatDoor
open Go.ChangeShapes Go.WideShapes Go.ChangeAt Go.RowKit
set_option linter.unusedVariables false
set_option linter.unusedSimpArgs false

theorem cells_at5 {w : World} {b : Nat} {a0 a1 a2 a3 a4 : Value} {t : TypeId} (h : w.heap[b]? = some (.cells #[a0, a1, a2, a3, a4] t (0, 0))) : ∀ j u, ([a0, a1, a2, a3, a4] : List Value)[j]? = some u → w.cell? ⟨b, 0 + j, none⟩ = some u := fun j u hu => by
  obtain ⟨c0, c1, c2, c3, c4, -⟩ := box5 h
  rw [Nat.zero_add]
  match j, hu with
  | 0, hu => simp at hu; rw [← hu]; exact c0
  | 1, hu => simp at hu; rw [← hu]; exact c1
  | 2, hu => simp at hu; rw [← hu]; exact c2
  | 3, hu => simp at hu; rw [← hu]; exact c3
  | 4, hu => simp at hu; rw [← hu]; exact c4
set_option maxRecDepth 100000 in
theorem part_par {N : Nat} (I0 : Part0 (N + 1)) (e : Ex) (ao : Option Addr) (cap asked wb : Nat) (s : St) (w : World) (o : Nat → Nat) (hN : e.kids.size < N + 1) (he : e.okA) (hr : rowOf e.k < asked) (F : Fit (e.kids.size + 1) s) (FX : FixW o w) (S : Sl w (L0 o) e.kids ao) (H : WrS w o wb s) :
    Calls Tryz.prog 48 #[.pointer (some ⟨wb, 0, none⟩), exV e ao cap, .int .i64 (asked : Nat)] w (PostS w o wb (wEx e asked s)) := by
  have hw : wEx e asked s = wList [40] [41] (fun g s => wFs (one e) g 0 s) s := by
    have h1 : wEx e 0 (s.ent.lay [40]) = wNode e.k e.n e.nm (kW e) (s.ent.lay [40]) := by unfold wEx wE; rw [if_neg (by omega)]
    have h2 : wFs (one e) comS 0 (s.ent.lay [40]) = wEx e 0 ((s.ent.lay [40]).lay []) := rfl
    unfold wList
    show wEx e asked s = ((wFs (one e) comS 0 (s.ent.lay [40])).lay [41]).lea
    rw [h2, lay_nil, h1]
    unfold wEx wE
    rw [if_pos hr]
  rw [hw]
  clear hw
  have st0 := boxStep I12 w o (.cells #[.int .i64 e.k, .int .i64 e.n, stv e.nm, .slice ao e.kids.len cap, .int .i64 e.a] 25)
  have E0 := boxBlk w o #[.int .i64 e.k, .int .i64 e.n, stv e.nm, .slice ao e.kids.len cap, .int .i64 e.a] 25
  have H0 : WrS _ _ wb s := H.step (boxStep (fun _ => False) w o (.cells #[.int .i64 e.k, .int .i64 e.n, stv e.nm, .slice ao e.kids.len cap, .int .i64 e.a] 25)) id id
  have S0 := S.stp st0
  have FX0 := FX.stp st0
  have hrI : ((rowOf e.k : Nat) : Int) < (asked : Int) := by omega
  rw [exV_out]
  go_enter Tryz.func48, Tryz.ntmps48
  go_upto_region 1 with fail
  generalize w.alloc (.cells #[.int .i64 e.k, .int .i64 e.n, stv e.nm, .slice ao e.kids.len cap, .int .i64 e.a] 25) = w0 at *
  generalize newLab w o 0 = o0 at *
  generalize w.heap.size = bx at *
  have T0 := st0
  clear st0 H S FX
  obtain ⟨p0, p1, p2, p3, p4, pf⟩ := box5 E0.1
  have c := rowOf_r e.k w0 FX0.op
  go_wp2_with fail
  refine c.mono ?_
  rintro y1 w1 ⟨rfl, b1⟩
  have st1 : Step I12 w0 o0 w1 o0 := Step.ofB o0 b1
  have H1 : WrS w1 o0 wb s := H0.step (Step.ofB (I := fun _ => False) o0 b1) id id
  have T1 := T0.trans st1
  have E1 := E0.stp st1
  have S1 := S0.stp st1
  have FX1 := FX0.stp st1
  clear c p0 p1 p2 p3 p4 pf T0 E0 S0 FX0 H0 st1 b1
  obtain ⟨p0, p1, p2, p3, p4, pf⟩ := box5 E1.1
  have st2 := boxStep I12 w1 o0 (.cells #[.int .i64 e.k, .int .i64 e.n, stv e.nm, .slice ao e.kids.len cap, .int .i64 e.a] 25)
  have E2 := boxBlk w1 o0 #[.int .i64 e.k, .int .i64 e.n, stv e.nm, .slice ao e.kids.len cap, .int .i64 e.a] 25
  have H2 : WrS _ _ wb s := H1.step (boxStep (fun _ => False) w1 o0 (.cells #[.int .i64 e.k, .int .i64 e.n, stv e.nm, .slice ao e.kids.len cap, .int .i64 e.a] 25)) id id
  have S2 := S1.stp st2
  have FX2 := FX1.stp st2
  have T2 := T1.trans st2
  have SL : Sl (w1.alloc (.cells #[.int .i64 e.k, .int .i64 e.n, stv e.nm, .slice ao e.kids.len cap, .int .i64 e.a] 25)) (L0 (newLab w1 o0 0)) (one e) (some ⟨w1.heap.size, 0, none⟩) := .inr ⟨w1.heap.size, 0, _, rfl, E2.2, E2.lt, cells_at5 E2.1, Fc.one cap S2⟩
  have hc := list_w I0 (one e) (some ⟨w1.heap.size, 0, none⟩) 1 wb [40] [41] s _ _ (by show e.kids.size + 0 + 1 ≤ _; omega) ⟨he.1, he.2, trivial⟩ (by show 0 + 1 ≤ _; omega) (by simp) (by simp) F FX2 SL H2
  clear T1 E1 S1 FX1 H1 st2 E2 H2 S2 FX2 SL
  have hc1 : (one e).len = 1 := rfl
  rw [hc1] at hc
  clear hc1
  go_wp2_with fail
  refine hc.mono ?_
  rintro y2 w9 ⟨rfl, o9, H9, st9⟩
  have T9 := T2.trans st9
  clear hc T2 st9
  go_wp2
  first | go_end0 | go_ret
  exact ⟨rfl, o9, H9, T9⟩
theorem part_both : ∀ N, PartOk N ∧ Part0 N
  | 0 => ⟨fun e ao cap asked wb s w o h => absurd h (Nat.not_lt_zero _), fun e ao cap asked wb s w o h => absurd h (Nat.not_lt_zero _)⟩
  | N + 1 => by
    obtain ⟨IH, I0⟩ := part_both N
    have J0 := part_zero IH I0
    refine ⟨fun e ao cap asked wb s w o h1 h2 h3 F FX S H => ?_, J0⟩
    by_cases hr : rowOf e.k < asked
    · exact part_par J0 e ao cap asked wb s w o h1 h2 hr F FX S H
    · have hw : wEx e asked s = wNode e.k e.n e.nm (kW e) s := by unfold wEx wE; rw [if_neg hr]
      rw [hw]
      exact part_low IH I0 e ao cap asked wb s w o h1 h2 hr F.one FX S H
end Go.Proofs.YtfpmaeflmboalaaGreatDoor
