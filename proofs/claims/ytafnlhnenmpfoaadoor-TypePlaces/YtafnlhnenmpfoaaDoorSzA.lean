/- The writer's calls: what they leave. -/
import Derived.Test.YtafnlhnenmpfoaaDoorSynZ
namespace Go.Proofs.YtafnlhnenmpfoaaDoor
open Go.ChangeShapes Go.WideShapes Go.ChangeAt Go.RowKit
set_option linter.unusedVariables false
set_option linter.unusedSimpArgs false

abbrev WrS (w : World) (o : Nat → Nat) (wb : Nat) (s : St) : Prop := Wr w o wb s.t s.a s.m s.b s.n
abbrev PostS (w : World) (o : Nat → Nat) (wb : Nat) (s : St) : Ending → World → Prop := PostW w o wb s.t s.a s.m s.b s.n
/-- Blocks of no label. -/
abbrev L0 (o : Nat → Nat) : Nat → Prop := fun b => o b = 0
theorem Sl.stp {w w' : World} {o o' : Nat → Nat} {f : Fs} {ao : Option Addr} (h : Sl w (L0 o) f ao) (s : Step I12 w o w' o') : Sl w' (L0 o') f ao :=
  h.mono (fun i hp hl => s.block i hl (fun hi => by rcases hi with hi | hi <;> (have hp : o i = 0 := hp; omega))) s.size (fun i hp hl => (s.lab i hl).trans hp)
theorem Blk.stp {w w' : World} {o o' : Nat → Nat} {b : Nat} {ob : Obj} (h : Blk w o 0 b ob) (s : Step I12 w o w' o') : Blk w' o' 0 b ob := h.step s (by simp [I12])
theorem Step.ofB {I : Nat → Prop} {w w' : World} (o : Nat → Nat) (b : Below w.heap.size w w') : Step I w o w' o := ⟨b.os, b.tape, b.output, b.size, fun _ _ => rfl, fun k hk _ => b.block k hk⟩
/-- A new box. -/
theorem boxStep (I : Nat → Prop) (w : World) (o : Nat → Nat) (ob : Obj) : Step I w o (w.alloc ob) (newLab w o 0) := ((Step.refl I w o).labelled 0).alloc ob
theorem boxBlk (w : World) (o : Nat → Nat) (cs : Array Value) (t : TypeId) : Blk (w.alloc (.cells cs t)) (newLab w o 0) 0 w.heap.size (.cells cs t (0, 0)) := ⟨heap_alloc_new w _, newLab_new (Nat.le_refl _)⟩
/-- What lies fast. -/
structure FixW (o : Nat → Nat) (w : World) : Prop where
  op : OpW w
  cl : ClW w
  qn : QnW w
  p : P10 w
  lo : o 3 = 0
  lc : o 0 = 0
  lq : o 2 = 0
  lp : o 6 = 0
theorem p10_blk {w w' : World} (h : P10 w) (hb : 6 < w.heap.size → w'.heap[6]? = w.heap[6]?) : P10 w' ∧ 6 < w.heap.size := by
  have hm : Tryd.prog.globalNamed "internal/strconv.uint64pow10" = some 6 := atoiLay.m17
  unfold P10 Go.Lib.TabIs at h ⊢
  simp only [World.var?, hm, Option.bind_some] at h ⊢
  have hlt : 6 < w.heap.size := by
    by_cases hb : 6 < w.heap.size
    · exact hb
    · have h2 : w.heap[6]? = none := Array.getElem?_eq_none (by omega)
      rw [h2] at h
      cases h
  rw [hb hlt]
  exact ⟨h, hlt⟩
theorem FixW.stp {w w' : World} {o o' : Nat → Nat} (h : FixW o w) (s : Step I12 w o w' o') : FixW o' w' := by
  have n0 : ∀ k, o k = 0 → ¬ I12 (o k) := fun k hk hi => by rcases hi with hi | hi <;> omega
  have l1 := h.op.lt
  have l2 := h.cl.lt
  have l3 := h.qn.lt
  have hp := p10_blk h.p (fun hl => s.block _ hl (n0 _ h.lp))
  obtain ⟨⟨t1, f1, h1⟩, ⟨t2, f2, h2⟩, ⟨t3, f3, h3⟩, h4, g1, g2, g3, g4⟩ := h
  exact ⟨⟨t1, f1, (s.block _ l1 (n0 _ g1)).trans h1⟩, ⟨t2, f2, (s.block _ l2 (n0 _ g2)).trans h2⟩, ⟨t3, f3, (s.block _ l3 (n0 _ g3)).trans h3⟩, hp.1, (s.lab _ l1).trans g1, (s.lab _ l2).trans g2, (s.lab _ l3).trans g3, (s.lab _ hp.2).trans g4⟩
/-- There is room for d parts more. -/
structure Fit (d : Nat) (s : St) : Prop where
  t : s.t.length + 100 * d ≤ 1000000
  a : s.a + 2 * d ≤ 100000
  m : s.m ≤ 100000
  b : s.b + d ≤ 100000
  n : s.n ≤ 100000
/-- There is room for d parts more, and for one whose parentheses stand already. -/
structure Fit1 (d : Nat) (s : St) : Prop where
  t : s.t.length + 100 * d + 80 ≤ 1000000
  a : s.a + 2 * d + 1 ≤ 100000
  m : s.m ≤ 100000
  b : s.b + d + 1 ≤ 100000
  n : s.n ≤ 100000
theorem Fit.one {d : Nat} {s : St} (F : Fit (d + 1) s) : Fit1 d s := by
  obtain ⟨f1, f2, f3, f4, f5⟩ := F
  exact ⟨by omega, by omega, f3, by omega, f5⟩
theorem Fit1.low {d : Nat} {s : St} (F : Fit1 d s) : Fit d s := by
  obtain ⟨f1, f2, f3, f4, f5⟩ := F
  exact ⟨by omega, by omega, f3, by omega, f5⟩
/-- The parts are such as may be written. -/
def okP (k n : Int) (nm : List UInt8) (m : Nat) : Prop := numB k n = true ∧ namB k nm = true ∧ kidB k n m = true ∧ nm.length ≤ 12 ∧ -9223372036854775808 ≤ n ∧ n ≤ 9223372036854775807
def Fs.okA : Fs → Prop
  | ⟨none⟩ => True
  | ⟨some ⟨k, n, nm, _, ks, r⟩⟩ => okP k n nm ks.len ∧ ks.okA ∧ r.okA
def Ex.okA (e : Ex) : Prop := okP e.k e.n e.nm e.kids.len ∧ e.kids.okA
theorem Fs.okA_neat : ∀ {f : Fs}, f.okA → f.neat
  | ⟨none⟩, h => trivial
  | ⟨some ⟨k, n, nm, a, ks, r⟩⟩, h => ⟨h.1.2.2.2.1, h.1.2.2.2.2.1, h.1.2.2.2.2.2, Fs.okA_neat h.2.1, Fs.okA_neat h.2.2⟩
theorem Ex.gr {e : Ex} (h : e.okA) (asked : Nat) (s : St) : Gr (e.kids.size * 100 + 42) (e.kids.size * 2 + 2) (e.kids.size + 1) s (wEx e asked s) :=
  wE_gr (fun g s hg => wFs_gr e.kids (Fs.okA_neat h.2) g 0 s hg) e.k e.n e.nm asked h.1.2.2.2.1 h.1.2.2.2.2.1 h.1.2.2.2.2.2 s
/-- The program's part lays as the plain writer does. -/
def PartOk (N : Nat) : Prop := ∀ (e : Ex) (ao : Option Addr) (cap asked wb : Nat) (s : St) (w : World) (o : Nat → Nat), e.kids.size < N → e.okA → asked ≤ 8 → Fit (e.kids.size + 1) s → FixW o w → Sl w (L0 o) e.kids ao → WrS w o wb s →
  Calls Tryd.prog 43 #[.pointer (some ⟨wb, 0, none⟩), exV e ao cap, .int .i64 (asked : Nat)] w (PostS w o wb (wEx e asked s))
set_option maxRecDepth 100000 in
theorem prefixed_r {N : Nat} (IH : PartOk N) (x : Ex) (ao : Option Addr) (cap asked wb : Nat) (tx : List UInt8) (s : St) (w : World) (o : Nat → Nat) (hN : x.kids.size < N) (hx : x.okA) (ha : asked ≤ 8) (htx : tx.length ≤ 22) (F : Fit1 (x.kids.size + 1) s) (FX : FixW o w) (S : Sl w (L0 o) x.kids ao) (H : WrS w o wb s) :
    Calls Tryd.prog 66 #[.pointer (some ⟨wb, 0, none⟩), stv tx, exV x ao cap, .int .i64 (asked : Nat)] w (PostS w o wb (wEx x asked (s.ent.lay tx)).lea) := by
  have st0 := boxStep I12 w o (.cells #[.int .i64 x.k, .int .i64 x.n, stv x.nm, .slice ao x.kids.len cap, .int .i64 x.a] 24)
  have E0 := boxBlk w o #[.int .i64 x.k, .int .i64 x.n, stv x.nm, .slice ao x.kids.len cap, .int .i64 x.a] 24
  have H0 : WrS _ _ wb s := H.step (boxStep (fun _ => False) w o (.cells #[.int .i64 x.k, .int .i64 x.n, stv x.nm, .slice ao x.kids.len cap, .int .i64 x.a] 24)) id id
  have S0 := S.stp st0
  have FX0 := FX.stp st0
  have c1 := openE_r H0 (by have := F.a; omega) (by have := F.m; omega)
  have hgr := Ex.gr hx asked (s.ent.lay tx)
  rw [exV_out]
  go_enter Tryd.func66, Tryd.ntmps66
  go_upto_region 1 with fail
  generalize w.alloc (.cells #[.int .i64 x.k, .int .i64 x.n, stv x.nm, .slice ao x.kids.len cap, .int .i64 x.a] 24) = w0 at *
  generalize newLab w o 0 = o0 at *
  generalize w.heap.size = bx at *
  go_wp2_with fail
  refine c1.mono ?_
  rintro e w1 ⟨rfl, o1, H1, st1⟩
  have H1 : WrS w1 o1 wb s.ent := H1
  have T1 := st0.trans st1
  have E1 := E0.stp st1
  have S1 := S0.stp st1
  have FX1 := FX0.stp st1
  clear c1 E0 S0 FX0 H0 st0 st1
  have c2 := lay_r tx H1 (by have := F.t; simp only [St.ent]; omega)
  go_wp2_with fail
  refine c2.mono ?_
  rintro e w2 ⟨rfl, o2, H2, st2⟩
  have H2 : WrS w2 o2 wb (s.ent.lay tx) := H2
  have T2 := T1.trans st2
  have E2 := E1.stp st2
  have S2 := S1.stp st2
  have FX2 := FX1.stp st2
  clear c2 E1 S1 FX1 H1 st2 T1
  have F2 : Fit (x.kids.size + 1) (s.ent.lay tx) := by
    obtain ⟨f1, f2, f3, f4, f5⟩ := F
    exact ⟨by simp only [St.lay, St.ent, List.length_append]; omega, by simp only [St.lay, St.ent]; omega, by simp only [St.lay, St.ent]; omega, by simp only [St.lay, St.ent]; omega, by simp only [St.lay, St.ent]; omega⟩
  obtain ⟨p0, p1, p2, p3, p4, pf⟩ := box5 E2.1
  have c3 := IH x ao cap asked wb (s.ent.lay tx) w2 o2 hN hx ha F2 FX2 S2 H2
  rw [exV_out] at c3
  go_wp2_with fail
  refine c3.mono ?_
  rintro e w3 ⟨rfl, o3, H3, st3⟩
  have T3 := T2.trans st3
  clear c3 T2 st3 E2 S2 FX2 H2 p0 p1 p2 p3 p4 pf
  have ea : (wEx x asked (s.ent.lay tx)).a = s.a + 1 := hgr.a
  rw [ea] at H3
  have c4 := openL_r H3 (by have := F.a; omega)
  go_wp2_with fail
  refine c4.mono ?_
  rintro e w4 ⟨rfl, o4, H4, st4⟩
  have T4 := T3.trans st4
  clear c4 st4 H3 T3
  go_wp2
  go_end0
  refine ⟨rfl, o4, ?_, T4⟩
  have e2 : (wEx x asked (s.ent.lay tx)).lea.a = s.a := by simp only [St.lea, ea]; omega
  rw [e2]
  exact H4
end Go.Proofs.YtafnlhnenmpfoaaDoor
