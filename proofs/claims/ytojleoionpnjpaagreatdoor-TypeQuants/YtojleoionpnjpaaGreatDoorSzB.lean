/- The writer's choice and quantified. -/
import Derived.Test.YtojleoionpnjpaaGreatDoorSynZ
namespace Go.Proofs.YtojleoionpnjpaaGreatDoor
open Go.ChangeShapes Go.WideShapes Go.ChangeAt Go.RowKit
set_option linter.unusedVariables false
set_option linter.unusedSimpArgs false

abbrev WrS (w : World) (o : Nat → Nat) (wb : Nat) (s : St) : Prop := Wr w o wb s.t s.a s.m s.b s.n
abbrev PostS (w : World) (o : Nat → Nat) (wb : Nat) (s : St) : Ending → World → Prop := PostW w o wb s.t s.a s.m s.b s.n
/-- Blocks of no label. -/
abbrev L0 (o : Nat → Nat) : Nat → Prop := fun b => o b = 0
theorem Sl.stp {w w' : World} {o o' : Nat → Nat} {f : Fs} {ao : Option Addr} (h : Sl w (L0 o) f ao) (s : Step I12 w o w' o') : Sl w' (L0 o') f ao :=
  h.mono (fun i hp hl => s.block i hl (fun hi => by rcases hi with hi | hi <;> (have hp : o i = 0 := hp; omega))) s.size (fun i hp hl => (s.lab i hl).trans hp)
theorem Blk.stp {w w' : World} {o o' : Nat → Nat} {b : Nat} {ob : Obj} (h : Blk w o 0 b ob) (s : Step I12 w o w' o') : Blk w' o' 0 b ob := h.step s (by simp [I12])
theorem Step.ofB {I : Nat → Prop} {w w' : World} (o : Nat → Nat) (b : Below w.heap.size w w') : Step I w o w' o := ⟨b.os, b.tape, b.output, b.size, fun _ _ => rfl, fun k hk _ => b.block k hk⟩
/-- A new box. -/
theorem boxStep (I : Nat → Prop) (w : World) (o : Nat → Nat) (ob : Obj) : Step I w o (w.alloc ob) (newLab w o 0) := ((Step.refl I w o).labelled 0).alloc ob
theorem boxBlk (w : World) (o : Nat → Nat) (cs : Array Value) (t : TypeId) : Blk (w.alloc (.cells cs t)) (newLab w o 0) 0 w.heap.size (.cells cs t (0, 0)) := ⟨heap_alloc_new w _, newLab_new (Nat.le_refl _)⟩
/-- What lies fast. -/
structure FixW (o : Nat → Nat) (w : World) : Prop where
  op : OpW w
  cl : ClW w
  qn : QnW w
  p : P10 w
  lo : o 3 = 0
  lc : o 0 = 0
  lq : o 2 = 0
  lp : o 6 = 0
theorem p10_blk {w w' : World} (h : P10 w) (hb : 6 < w.heap.size → w'.heap[6]? = w.heap[6]?) : P10 w' ∧ 6 < w.heap.size := by
  have hm : Tryz.prog.globalNamed "internal/strconv.uint64pow10" = some 6 := atoiLay.m17
  unfold P10 Go.Lib.TabIs at h ⊢
  simp only [World.var?, hm, Option.bind_some] at h ⊢
  have hlt : 6 < w.heap.size := by
    by_cases hb : 6 < w.heap.size
    · exact hb
    · have h2 : w.heap[6]? = none := Array.getElem?_eq_none (by omega)
      rw [h2] at h
      cases h
  rw [hb hlt]
  exact ⟨h, hlt⟩
theorem FixW.stp {w w' : World} {o o' : Nat → Nat} (h : FixW o w) (s : Step I12 w o w' o') : FixW o' w' := by
  have n0 : ∀ k, o k = 0 → ¬ I12 (o k) := fun k hk hi => by rcases hi with hi | hi <;> omega
  have l1 := h.op.lt
  have l2 := h.cl.lt
  have l3 := h.qn.lt
  have hp := p10_blk h.p (fun hl => s.block _ hl (n0 _ h.lp))
  obtain ⟨⟨t1, f1, h1⟩, ⟨t2, f2, h2⟩, ⟨t3, f3, h3⟩, h4, g1, g2, g3, g4⟩ := h
  exact ⟨⟨t1, f1, (s.block _ l1 (n0 _ g1)).trans h1⟩, ⟨t2, f2, (s.block _ l2 (n0 _ g2)).trans h2⟩, ⟨t3, f3, (s.block _ l3 (n0 _ g3)).trans h3⟩, hp.1, (s.lab _ l1).trans g1, (s.lab _ l2).trans g2, (s.lab _ l3).trans g3, (s.lab _ hp.2).trans g4⟩
/-- There is room for d parts more. -/
structure Fit (d : Nat) (s : St) : Prop where
  t : s.t.length + 100 * d ≤ 1000000
  a : s.a + 2 * d ≤ 100000
  m : s.m ≤ 100000
  b : s.b + d ≤ 100000
  n : s.n ≤ 100000
/-- There is room for d parts more, and for one whose parentheses stand already. -/
structure Fit1 (d : Nat) (s : St) : Prop where
  t : s.t.length + 100 * d + 80 ≤ 1000000
  a : s.a + 2 * d + 1 ≤ 100000
  m : s.m ≤ 100000
  b : s.b + d + 1 ≤ 100000
  n : s.n ≤ 100000
theorem Fit.one {d : Nat} {s : St} (F : Fit (d + 1) s) : Fit1 d s := by
  obtain ⟨f1, f2, f3, f4, f5⟩ := F
  exact ⟨by omega, by omega, f3, by omega, f5⟩
theorem Fit1.low {d : Nat} {s : St} (F : Fit1 d s) : Fit d s := by
  obtain ⟨f1, f2, f3, f4, f5⟩ := F
  exact ⟨by omega, by omega, f3, by omega, f5⟩
/-- The parts are such as may be written. -/
def okP (k n : Int) (nm : List UInt8) (m : Nat) : Prop := numB k n = true ∧ namB k nm = true ∧ kidB k n m = true ∧ nm.length ≤ 12 ∧ -9223372036854775808 ≤ n ∧ n ≤ 9223372036854775807
def Fs.okA : Fs → Prop
  | ⟨none⟩ => True
  | ⟨some ⟨k, n, nm, _, ks, r⟩⟩ => okP k n nm ks.len ∧ ks.okA ∧ r.okA
def Ex.okA (e : Ex) : Prop := okP e.k e.n e.nm e.kids.len ∧ e.kids.okA
theorem Fs.okA_neat : ∀ {f : Fs}, f.okA → f.neat
  | ⟨none⟩, h => trivial
  | ⟨some ⟨k, n, nm, a, ks, r⟩⟩, h => ⟨h.1.2.2.2.1, h.1.2.2.2.2.1, h.1.2.2.2.2.2, Fs.okA_neat h.2.1, Fs.okA_neat h.2.2⟩
theorem Ex.gr {e : Ex} (h : e.okA) (asked : Nat) (s : St) : Gr (e.kids.size * 100 + 42) (e.kids.size * 2 + 2) (e.kids.size + 1) s (wEx e asked s) :=
  wE_gr (fun g s hg => wFs_gr e.kids (Fs.okA_neat h.2) g 0 s hg) e.k e.n e.nm asked h.1.2.2.2.1 h.1.2.2.2.2.1 h.1.2.2.2.2.2 s
/-- The program's part lays as the plain writer does. -/
def PartOk (N : Nat) : Prop := ∀ (e : Ex) (ao : Option Addr) (cap asked wb : Nat) (s : St) (w : World) (o : Nat → Nat), e.kids.size < N → e.okA → asked ≤ 8 → Fit (e.kids.size + 1) s → FixW o w → Sl w (L0 o) e.kids ao → WrS w o wb s →
  Calls Tryz.prog 51 #[.pointer (some ⟨wb, 0, none⟩), exV e ao cap, .int .i64 (asked : Nat)] w (PostS w o wb (wEx e asked s))
set_option maxRecDepth 100000 in
theorem prefixed_r {N : Nat} (IH : PartOk N) (x : Ex) (ao : Option Addr) (cap asked wb : Nat) (tx : List UInt8) (s : St) (w : World) (o : Nat → Nat) (hN : x.kids.size < N) (hx : x.okA) (ha : asked ≤ 8) (htx : tx.length ≤ 22) (F : Fit1 (x.kids.size + 1) s) (FX : FixW o w) (S : Sl w (L0 o) x.kids ao) (H : WrS w o wb s) :
    Calls Tryz.prog 87 #[.pointer (some ⟨wb, 0, none⟩), stv tx, exV x ao cap, .int .i64 (asked : Nat)] w (PostS w o wb (wEx x asked (s.ent.lay tx)).lea) := by
  have st0 := boxStep I12 w o (.cells #[.int .i64 x.k, .int .i64 x.n, stv x.nm, .slice ao x.kids.len cap, .int .i64 x.a] 25)
  have E0 := boxBlk w o #[.int .i64 x.k, .int .i64 x.n, stv x.nm, .slice ao x.kids.len cap, .int .i64 x.a] 25
  have H0 : WrS _ _ wb s := H.step (boxStep (fun _ => False) w o (.cells #[.int .i64 x.k, .int .i64 x.n, stv x.nm, .slice ao x.kids.len cap, .int .i64 x.a] 25)) id id
  have S0 := S.stp st0
  have FX0 := FX.stp st0
  have c1 := openE_r H0 (by have := F.a; omega) (by have := F.m; omega)
  have hgr := Ex.gr hx asked (s.ent.lay tx)
  rw [exV_out]
  go_enter Tryz.func87, Tryz.ntmps87
  go_upto_region 1 with fail
  generalize w.alloc (.cells #[.int .i64 x.k, .int .i64 x.n, stv x.nm, .slice ao x.kids.len cap, .int .i64 x.a] 25) = w0 at *
  generalize newLab w o 0 = o0 at *
  generalize w.heap.size = bx at *
  go_wp2_with fail
  refine c1.mono ?_
  rintro e w1 ⟨rfl, o1, H1, st1⟩
  have H1 : WrS w1 o1 wb s.ent := H1
  have T1 := st0.trans st1
  have E1 := E0.stp st1
  have S1 := S0.stp st1
  have FX1 := FX0.stp st1
  clear c1 E0 S0 FX0 H0 st0 st1
  have c2 := lay_r tx H1 (by have := F.t; simp only [St.ent]; omega)
  go_wp2_with fail
  refine c2.mono ?_
  rintro e w2 ⟨rfl, o2, H2, st2⟩
  have H2 : WrS w2 o2 wb (s.ent.lay tx) := H2
  have T2 := T1.trans st2
  have E2 := E1.stp st2
  have S2 := S1.stp st2
  have FX2 := FX1.stp st2
  clear c2 E1 S1 FX1 H1 st2 T1
  have F2 : Fit (x.kids.size + 1) (s.ent.lay tx) := by
    obtain ⟨f1, f2, f3, f4, f5⟩ := F
    exact ⟨by simp only [St.lay, St.ent, List.length_append]; omega, by simp only [St.lay, St.ent]; omega, by simp only [St.lay, St.ent]; omega, by simp only [St.lay, St.ent]; omega, by simp only [St.lay, St.ent]; omega⟩
  obtain ⟨p0, p1, p2, p3, p4, pf⟩ := box5 E2.1
  have c3 := IH x ao cap asked wb (s.ent.lay tx) w2 o2 hN hx ha F2 FX2 S2 H2
  rw [exV_out] at c3
  go_wp2_with fail
  refine c3.mono ?_
  rintro e w3 ⟨rfl, o3, H3, st3⟩
  have T3 := T2.trans st3
  clear c3 T2 st3 E2 S2 FX2 H2 p0 p1 p2 p3 p4 pf
  have ea : (wEx x asked (s.ent.lay tx)).a = s.a + 1 := hgr.a
  rw [ea] at H3
  have c4 := openL_r H3 (by have := F.a; omega)
  go_wp2_with fail
  refine c4.mono ?_
  rintro e w4 ⟨rfl, o4, H4, st4⟩
  have T4 := T3.trans st4
  clear c4 st4 H3 T3
  go_wp2
  go_end0
  refine ⟨rfl, o4, ?_, T4⟩
  have e2 : (wEx x asked (s.ent.lay tx)).lea.a = s.a := by simp only [St.lea, ea]; omega
  rw [e2]
  exact H4
end Go.Proofs.YtojleoionpnjpaaGreatDoor
namespace Go.Proofs.YtojleoionpnjpaaGreatDoor
open Go.ChangeShapes Go.WideShapes Go.ChangeAt Go.RowKit
set_option linter.unusedVariables false
set_option linter.unusedSimpArgs false

/-- A tree ahead of others. -/
def Fs.ex (x : Ex) (r : Fs) : Fs := .cons x.k x.n x.nm x.a x.kids r
theorem wFs_ex (x : Ex) (r : Fs) (g : Sep) (i : Nat) (s : St) : wFs (Fs.ex x r) g i s = wFs r g (i + 1) (wEx x (g i).2 (s.lay (g i).1)) := rfl
theorem okA_ex {x : Ex} {r : Fs} (h : (Fs.ex x r).okA) : x.okA ∧ r.okA := ⟨⟨h.1, h.2.1⟩, h.2.2⟩
theorem len_ex (x : Ex) (r : Fs) : (Fs.ex x r).len = r.len + 1 := rfl
theorem len1 : ∀ {f : Fs}, f.len = 1 → ∃ x, f = Fs.ex x .nil
  | ⟨none⟩, h => by cases h
  | ⟨some ⟨k, n, nm, a, ks, ⟨none⟩⟩⟩, h => ⟨⟨k, n, nm, a, ks⟩, rfl⟩
  | ⟨some ⟨_, _, _, _, _, (⟨some ⟨_, _, _, _, _, _⟩⟩)⟩⟩, h => by simp [Fs.len] at h
theorem len2 : ∀ {f : Fs}, f.len = 2 → ∃ x y, f = Fs.ex x (Fs.ex y .nil)
  | ⟨none⟩, h => by cases h
  | ⟨some ⟨k, n, nm, a, ks, r⟩⟩, h => by
    obtain ⟨y, rfl⟩ := len1 (f := r) (by simp only [Fs.len] at h; omega)
    exact ⟨⟨k, n, nm, a, ks⟩, y, rfl⟩
theorem len3 : ∀ {f : Fs}, f.len = 3 → ∃ x y z, f = Fs.ex x (Fs.ex y (Fs.ex z .nil))
  | ⟨none⟩, h => by cases h
  | ⟨some ⟨k, n, nm, a, ks, r⟩⟩, h => by
    obtain ⟨y, z, rfl⟩ := len2 (f := r) (by simp only [Fs.len] at h; omega)
    exact ⟨⟨k, n, nm, a, ks⟩, y, z, rfl⟩
/-- What one of the kids is. -/
theorem Sl.kidP {w : World} {P : Nat → Prop} {x r : Fs} {y : Ex} {ao : Option Addr} (h : Sl w P (x.app (Fs.ex y r)) ao) (i : Nat) (hi : x.len = i) : ∃ b off ak ck, ao = some ⟨b, off, none⟩ ∧ w.cell? ⟨b, off + i * 5, none⟩ = some (.int .i64 y.k) ∧ w.cell? ⟨b, off + i * 5 + 1, none⟩ = some (.int .i64 y.n) ∧ w.cell? ⟨b, off + i * 5 + 2, none⟩ = some (stv y.nm) ∧ w.cell? ⟨b, off + i * 5 + 3, none⟩ = some (.slice ak y.kids.len ck) ∧ w.cell? ⟨b, off + i * 5 + 4, none⟩ = some (.int .i64 y.a) ∧ Sl w P y.kids ak := by
  subst hi
  rcases h with h | ⟨b, off, zs, rfl, hp, hlt, hc, hf⟩
  · cases x using Fs.on with
    | nil => cases h
    | cons k n nm a ks r => cases h
  · obtain ⟨zx, zy, rfl, h3, h4⟩ := Fc.split hf
    have hl := h3.len
    obtain ⟨ak, ck, ys, rfl, h5, h6⟩ := h4
    have hc' : ∀ j u, (.int .i64 y.k :: .int .i64 y.n :: stv y.nm :: .slice ak y.kids.len ck :: .int .i64 y.a :: ys : List Value)[j]? = some u → w.cell? ⟨b, off + x.len * 5 + j, none⟩ = some u := fun j u hu => by
      have := hc (x.len * 5 + j) u (by rw [List.getElem?_append_right (by omega), hl, Nat.add_sub_cancel_left]; exact hu)
      rw [Nat.add_assoc]
      exact this
    exact ⟨b, off, ak, ck, rfl, hc' 0 _ rfl, hc' 1 _ rfl, hc' 2 _ rfl, hc' 3 _ rfl, hc' 4 _ rfl, h5⟩
theorem cells2k {w : World} {b : Nat} {a0 a1 : Value} {t : TypeId} (h : w.heap[b]? = some (.cells #[a0, a1] t (0, 0))) : w.cell? ⟨b, 0, none⟩ = some a0 ∧ w.cell? ⟨b, 1, none⟩ = some a1 ∧ ∀ j, w.frozen? ⟨b, j, none⟩ = false := by
  refine ⟨?_, ?_, fun j => frozen_of_row w b j _ t h⟩ <;> simp [cell_of_row w b _ _ t (0, 0) h]
theorem addr_inj {b f b' f' : Nat} (h : some (⟨b, f, none⟩ : Addr) = some ⟨b', f', none⟩) : b' = b ∧ f' = f := by
  injection h with h
  injection h with h1 h2
  exact ⟨h1.symm, h2.symm⟩
theorem Fit.gr {D D' c d q : Nat} {u v : St} (F : Fit D u) (G : Gr c d q u v) (hc : c + 100 * D' ≤ 100 * D) (hd : d + 2 * D' ≤ 2 * D + d) (hd2 : d ≤ 2 * D) (hq : q ≤ D) (hD : D' ≤ D) : Fit D' v := by
  obtain ⟨f1, f2, f3, f4, f5⟩ := F
  obtain ⟨g1, g2, g3, g4, g5⟩ := G
  exact ⟨by omega, by omega, by omega, by omega, by omega⟩
theorem Fit1.ent {D : Nat} {s : St} (F : Fit1 D s) : Fit D s.ent := by
  obtain ⟨f1, f2, f3, f4, f5⟩ := F
  exact ⟨by simp only [St.ent]; omega, by simp only [St.ent]; omega, by simp only [St.ent]; omega, by simp only [St.ent]; omega, by simp only [St.ent]; omega⟩
theorem Fit1.qent {D : Nat} {s : St} (F : Fit1 D s) : Fit D s.ent.qent := by
  obtain ⟨f1, f2, f3, f4, f5⟩ := F
  exact ⟨by simp only [St.ent, St.qent]; omega, by simp only [St.ent, St.qent]; omega, by simp only [St.ent, St.qent]; omega, by simp only [St.ent, St.qent]; omega, by simp only [St.ent, St.qent]; omega⟩
set_option maxRecDepth 100000 in
theorem choice_w {N : Nat} (IH : PartOk N) (e x0 x1 x2 : Ex) (ao : Option Addr) (cap wb : Nat) (s : St) (w : World) (o : Nat → Nat) (hk : e.kids = Fs.ex x0 (Fs.ex x1 (Fs.ex x2 .nil))) (hN : e.kids.size ≤ N) (he : e.kids.okA) (F : Fit1 e.kids.size s) (FX : FixW o w) (S : Sl w (L0 o) e.kids ao) (H : WrS w o wb s) :
    Calls Tryz.prog 88 #[.pointer (some ⟨wb, 0, none⟩), exV e ao cap] w (PostS w o wb (wFs e.kids ifS 0 s.ent).lea) := by
  have hx := he
  rw [hk] at hx
  obtain ⟨hx0, hx⟩ := okA_ex hx
  obtain ⟨hx1, hx⟩ := okA_ex hx
  obtain ⟨hx2, -⟩ := okA_ex hx
  have hz : e.kids.size = x0.kids.size + (x1.kids.size + (x2.kids.size + 0 + 1) + 1) + 1 := by rw [hk]; rfl
  have hlen : e.kids.len = 3 := by rw [hk]; rfl
  have HK : Hid (e.kids = Fs.ex x0 (Fs.ex x1 (Fs.ex x2 .nil))) := hk
  obtain ⟨bb, bf, -, -, rfl, -⟩ := Sl.kidP (x := .nil) (by rw [hk] at S; exact S) 0 rfl
  clear hk hx
  have st0 := boxStep I12 w o (.cells #[.int .i64 e.k, .int .i64 e.n, stv e.nm, .slice (some ⟨bb, bf, none⟩) 3 cap, .int .i64 e.a] 25)
  have E0 := boxBlk w o #[.int .i64 e.k, .int .i64 e.n, stv e.nm, .slice (some ⟨bb, bf, none⟩) 3 cap, .int .i64 e.a] 25
  have H0 : WrS _ _ wb s := H.step (boxStep (fun _ => False) w o (.cells #[.int .i64 e.k, .int .i64 e.n, stv e.nm, .slice (some ⟨bb, bf, none⟩) 3 cap, .int .i64 e.a] 25)) id id
  have S0 := S.stp st0
  have FX0 := FX.stp st0
  rw [exV_out, hlen]
  clear hlen
  go_enter Tryz.func88, Tryz.ntmps88
  go_upto_region 1 with fail
  generalize w.alloc (.cells #[.int .i64 e.k, .int .i64 e.n, stv e.nm, .slice (some ⟨bb, bf, none⟩) 3 cap, .int .i64 e.a] 25) = w0 at *
  generalize newLab w o 0 = o0 at *
  generalize w.heap.size = bx at *
  have T0 := st0
  clear st0 H S FX
  obtain ⟨v0, hv0⟩ : ∃ z, z = s := ⟨_, rfl⟩
  rw [← hv0] at H0
  obtain ⟨p0, p1, p2, p3, p4, pf⟩ := box5 E0.1
  have c := openE_r H0 (by have := F.a; have := F.m; rw [hv0]; omega) (by have := F.a; have := F.m; rw [hv0]; omega)
  obtain ⟨v1, hv1⟩ : ∃ z, z = v0.ent := ⟨_, rfl⟩
  go_wp2_with fail
  refine c.mono ?_
  rintro x1 w1 ⟨rfl, o1, H1', st1⟩
  have H1 : WrS w1 o1 wb v1 := by rw [hv1]; exact H1'
  have T1 := T0.trans st1
  have E1 := E0.stp st1
  have S1 := S0.stp st1
  have FX1 := FX0.stp st1
  clear c p0 p1 p2 p3 p4 pf T0 E0 S0 FX0 H0 H1' st1
  obtain ⟨p0, p1, p2, p3, p4, pf⟩ := box5 E1.1
  have U : Fit e.kids.size v1 := by
    rw [hv1, hv0]
    exact F.ent
  have G1 : Gr 0 0 0 v1 v1 := Gr.refl _
  have hl1 : ([105, 102, 32] : List UInt8).length ≤ 3 := by simp
  have hf1 := (U.gr (D' := 0) G1 (by omega) (by omega) (by omega) (by omega) (by omega)).t
  have c := lay_r ([105, 102, 32]) H1 (by omega)
  obtain ⟨v2, hv2⟩ : ∃ z, z = v1.lay ([105, 102, 32]) := ⟨_, rfl⟩
  go_wp2_with fail
  refine c.mono ?_
  rintro x2 w2 ⟨rfl, o2, H2', st2⟩
  have H2 : WrS w2 o2 wb v2 := by rw [hv2]; exact H2'
  have T2 := T1.trans st2
  have E2 := E1.stp st2
  have S2 := S1.stp st2
  have FX2 := FX1.stp st2
  clear c p0 p1 p2 p3 p4 pf T1 E1 S1 FX1 H1 H2' st2
  obtain ⟨p0, p1, p2, p3, p4, pf⟩ := box5 E2.1
  have G2 := G1.lay ([105, 102, 32]) (Nat.add_le_add_left hl1 _)
  rw [← hv2] at G2
  clear G1 hl1 hf1
  obtain ⟨b2, off2, ak2, ck2, ho2, q0, q1, q2, q3, q4, SK⟩ := Sl.kidP (x := Fs.nil) (y := x0) (by rw [HK.out] at S2; exact S2) 0 rfl
  obtain ⟨rfl, rfl⟩ := addr_inj ho2
  clear ho2
  simp only [Nat.reduceMul, Nat.add_zero] at q0 q1 q2 q3 q4
  have hc2 := IH x0 ak2 ck2 (0) wb v2 w2 o2 (by omega) hx0 (by omega) (U.gr G2 (by omega) (by omega) (by omega) (by omega) (by omega)) FX2 SK H2
  rw [exV_out] at hc2
  have hg2 := Ex.gr hx0 (0) v2
  have c := hc2
  obtain ⟨v3, hv3⟩ : ∃ z, z = wEx x0 (0) v2 := ⟨_, rfl⟩
  go_wp2_with fail
  refine c.mono ?_
  rintro x3 w3 ⟨rfl, o3, H3', st3⟩
  have H3 : WrS w3 o3 wb v3 := by rw [hv3]; exact H3'
  have T3 := T2.trans st3
  have E3 := E2.stp st3
  have S3 := S2.stp st3
  have FX3 := FX2.stp st3
  clear c p0 p1 p2 p3 p4 pf T2 E2 S2 FX2 H2 H3' st3
  obtain ⟨p0, p1, p2, p3, p4, pf⟩ := box5 E3.1
  have G3 := G2.trans hg2
  rw [← hv3] at G3
  clear G2 hg2 hc2 q0 q1 q2 q3 q4 SK
  have hl3 : ([32, 116, 104, 101, 110, 32] : List UInt8).length ≤ 6 := by simp
  have hf3 := (U.gr (D' := 0) G3 (by omega) (by omega) (by omega) (by omega) (by omega)).t
  have c := lay_r ([32, 116, 104, 101, 110, 32]) H3 (by omega)
  obtain ⟨v4, hv4⟩ : ∃ z, z = v3.lay ([32, 116, 104, 101, 110, 32]) := ⟨_, rfl⟩
  go_wp2_with fail
  refine c.mono ?_
  rintro x4 w4 ⟨rfl, o4, H4', st4⟩
  have H4 : WrS w4 o4 wb v4 := by rw [hv4]; exact H4'
  have T4 := T3.trans st4
  have E4 := E3.stp st4
  have S4 := S3.stp st4
  have FX4 := FX3.stp st4
  clear c p0 p1 p2 p3 p4 pf T3 E3 S3 FX3 H3 H4' st4
  obtain ⟨p0, p1, p2, p3, p4, pf⟩ := box5 E4.1
  have G4 := G3.lay ([32, 116, 104, 101, 110, 32]) (Nat.add_le_add_left hl3 _)
  rw [← hv4] at G4
  clear G3 hl3 hf3
  obtain ⟨b4, off4, ak4, ck4, ho4, q0, q1, q2, q3, q4, SK⟩ := Sl.kidP (x := (Fs.ex x0 Fs.nil)) (y := x1) (by rw [HK.out] at S4; exact S4) 1 rfl
  obtain ⟨rfl, rfl⟩ := addr_inj ho4
  clear ho4
  simp only [Nat.reduceMul, Nat.add_zero] at q0 q1 q2 q3 q4
  have hc4 := IH x1 ak4 ck4 (0) wb v4 w4 o4 (by omega) hx1 (by omega) (U.gr G4 (by omega) (by omega) (by omega) (by omega) (by omega)) FX4 SK H4
  rw [exV_out] at hc4
  have hg4 := Ex.gr hx1 (0) v4
  have c := hc4
  obtain ⟨v5, hv5⟩ : ∃ z, z = wEx x1 (0) v4 := ⟨_, rfl⟩
  go_wp2_with fail
  refine c.mono ?_
  rintro x5 w5 ⟨rfl, o5, H5', st5⟩
  have H5 : WrS w5 o5 wb v5 := by rw [hv5]; exact H5'
  have T5 := T4.trans st5
  have E5 := E4.stp st5
  have S5 := S4.stp st5
  have FX5 := FX4.stp st5
  clear c p0 p1 p2 p3 p4 pf T4 E4 S4 FX4 H4 H5' st5
  obtain ⟨p0, p1, p2, p3, p4, pf⟩ := box5 E5.1
  have G5 := G4.trans hg4
  rw [← hv5] at G5
  clear G4 hg4 hc4 q0 q1 q2 q3 q4 SK
  have hl5 : ([32, 101, 108, 115, 101, 32] : List UInt8).length ≤ 6 := by simp
  have hf5 := (U.gr (D' := 0) G5 (by omega) (by omega) (by omega) (by omega) (by omega)).t
  have c := lay_r ([32, 101, 108, 115, 101, 32]) H5 (by omega)
  obtain ⟨v6, hv6⟩ : ∃ z, z = v5.lay ([32, 101, 108, 115, 101, 32]) := ⟨_, rfl⟩
  go_wp2_with fail
  refine c.mono ?_
  rintro x6 w6 ⟨rfl, o6, H6', st6⟩
  have H6 : WrS w6 o6 wb v6 := by rw [hv6]; exact H6'
  have T6 := T5.trans st6
  have E6 := E5.stp st6
  have S6 := S5.stp st6
  have FX6 := FX5.stp st6
  clear c p0 p1 p2 p3 p4 pf T5 E5 S5 FX5 H5 H6' st6
  obtain ⟨p0, p1, p2, p3, p4, pf⟩ := box5 E6.1
  have G6 := G5.lay ([32, 101, 108, 115, 101, 32]) (Nat.add_le_add_left hl5 _)
  rw [← hv6] at G6
  clear G5 hl5 hf5
  obtain ⟨b6, off6, ak6, ck6, ho6, q0, q1, q2, q3, q4, SK⟩ := Sl.kidP (x := (Fs.ex x0 (Fs.ex x1 Fs.nil))) (y := x2) (by rw [HK.out] at S6; exact S6) 2 rfl
  obtain ⟨rfl, rfl⟩ := addr_inj ho6
  clear ho6
  simp only [Nat.reduceMul, Nat.add_zero] at q0 q1 q2 q3 q4
  have hc6 := IH x2 ak6 ck6 (0) wb v6 w6 o6 (by omega) hx2 (by omega) (U.gr G6 (by omega) (by omega) (by omega) (by omega) (by omega)) FX6 SK H6
  rw [exV_out] at hc6
  have hg6 := Ex.gr hx2 (0) v6
  have c := hc6
  obtain ⟨v7, hv7⟩ : ∃ z, z = wEx x2 (0) v6 := ⟨_, rfl⟩
  go_wp2_with fail
  refine c.mono ?_
  rintro x7 w7 ⟨rfl, o7, H7', st7⟩
  have H7 : WrS w7 o7 wb v7 := by rw [hv7]; exact H7'
  have T7 := T6.trans st7
  have E7 := E6.stp st7
  have S7 := S6.stp st7
  have FX7 := FX6.stp st7
  clear c p0 p1 p2 p3 p4 pf T6 E6 S6 FX6 H6 H7' st7
  obtain ⟨p0, p1, p2, p3, p4, pf⟩ := box5 E7.1
  have G7 := G6.trans hg6
  rw [← hv7] at G7
  clear G6 hg6 hc6 q0 q1 q2 q3 q4 SK
  have ga := G7.a
  have ea7 : v7.a = s.a + 1 := by
    rw [G7.a, hv1, hv0]; rfl
  have K7 : Wr w7 o7 wb v7.t (s.a + 1) v7.m v7.b v7.n := by rw [← ea7]; exact H7
  have c := openL_r K7 (by have := F.a; omega)
  obtain ⟨v8, hv8⟩ : ∃ z, z = v7.lea := ⟨_, rfl⟩
  go_wp2_with fail
  refine c.mono ?_
  rintro x8 w8 ⟨rfl, o8, H8', st8⟩
  have H8 : WrS w8 o8 wb v8 := by rw [hv8]; show Wr _ _ _ v7.t (v7.a - 1) v7.m v7.b v7.n; rw [ea7]; exact H8'
  have T8 := T7.trans st8
  have E8 := E7.stp st8
  have S8 := S7.stp st8
  have FX8 := FX7.stp st8
  clear c p0 p1 p2 p3 p4 pf T7 E7 S7 FX7 H7 H8' st8
  obtain ⟨p0, p1, p2, p3, p4, pf⟩ := box5 E8.1
  go_wp2
  go_end0
  refine ⟨rfl, o8, ?_, T8⟩
  have hT : (wFs e.kids ifS 0 s.ent).lea = v8 := by
    rw [HK.out, wFs_ex, wFs_ex, wFs_ex, hv8, hv7, hv6, hv5, hv4, hv3, hv2, hv1, hv0]
    rfl
  rw [hT]
  exact H8
set_option maxRecDepth 100000 in
theorem quant_w {N : Nat} (IH : PartOk N) (e x0 x1 : Ex) (ao : Option Addr) (cap wb : Nat) (s : St) (w : World) (o : Nat → Nat) (hk : e.kids = Fs.ex x0 (Fs.ex x1 .nil)) (hN : e.kids.size ≤ N) (he : e.kids.okA) (hnm : e.nm.length ≤ 12) (qx : List UInt8 × Nat) (hq : quantOf e.n = some qx) (F : Fit1 e.kids.size s) (FX : FixW o w) (S : Sl w (L0 o) e.kids ao) (H : WrS w o wb s) :
    Calls Tryz.prog 89 #[.pointer (some ⟨wb, 0, none⟩), exV e ao cap] w (PostS w o wb (wFs e.kids (quS e.n e.nm) 0 s.ent.qent).qlea.lea) := by
  have hx := he
  rw [hk] at hx
  obtain ⟨hx0, hx⟩ := okA_ex hx
  obtain ⟨hx1, -⟩ := okA_ex hx
  have hz : e.kids.size = x0.kids.size + (x1.kids.size + 0 + 1) + 1 := by rw [hk]; rfl
  have hlen : e.kids.len = 2 := by rw [hk]; rfl
  have HK : Hid (e.kids = Fs.ex x0 (Fs.ex x1 .nil)) := hk
  obtain ⟨bb, bf, -, -, rfl, -⟩ := Sl.kidP (x := .nil) (by rw [hk] at S; exact S) 0 rfl
  have hqw2 : qword e.n = qx.1 := by unfold qword; rw [hq]
  have hqw : qx.1.length ≤ 5 := by
    have := qword_len e.n
    unfold qword at this
    rw [hq] at this
    exact this
  clear hk hx
  have st0 := boxStep I12 w o (.cells #[.int .i64 e.k, .int .i64 e.n, stv e.nm, .slice (some ⟨bb, bf, none⟩) 2 cap, .int .i64 e.a] 25)
  have E0 := boxBlk w o #[.int .i64 e.k, .int .i64 e.n, stv e.nm, .slice (some ⟨bb, bf, none⟩) 2 cap, .int .i64 e.a] 25
  have H0 : WrS _ _ wb s := H.step (boxStep (fun _ => False) w o (.cells #[.int .i64 e.k, .int .i64 e.n, stv e.nm, .slice (some ⟨bb, bf, none⟩) 2 cap, .int .i64 e.a] 25)) id id
  have S0 := S.stp st0
  have FX0 := FX.stp st0
  rw [exV_out, hlen]
  clear hlen
  go_enter Tryz.func89, Tryz.ntmps89
  go_upto_region 1 with fail
  generalize w.alloc (.cells #[.int .i64 e.k, .int .i64 e.n, stv e.nm, .slice (some ⟨bb, bf, none⟩) 2 cap, .int .i64 e.a] 25) = w0 at *
  generalize newLab w o 0 = o0 at *
  generalize w.heap.size = bx at *
  have T0 := st0
  clear st0 H S FX
  obtain ⟨v0, hv0⟩ : ∃ z, z = s := ⟨_, rfl⟩
  rw [← hv0] at H0
  obtain ⟨p0, p1, p2, p3, p4, pf⟩ := box5 E0.1
  have c := quantOf_r e.n w0 FX0.qn
  go_wp2_with fail
  refine c.mono ?_
  rintro y1 w0a ⟨rfl, b1⟩
  have st1 : Step I12 w0 o0 w0a o0 := Step.ofB o0 b1
  have H0a : WrS w0a o0 wb v0 := H0.step (Step.ofB (I := fun _ => False) o0 b1) id id
  have T0a := T0.trans st1
  have E0a := E0.stp st1
  have S0a := S0.stp st1
  have FX0a := FX0.stp st1
  clear c p0 p1 p2 p3 p4 pf T0 E0 S0 FX0 H0 st1 b1
  obtain ⟨p0, p1, p2, p3, p4, pf⟩ := box5 E0a.1
  have hq2 : quantsL.find? (fun x => (x.2 : Int) == e.n) = some qx := hq
  rw [hq2]
  simp only [qnF]
  go_upto_region 2 with fail
  have st2 := boxStep I12 w0a o0 (.cells #[stv qx.1, .int .i64 (qx.2 : Nat)] 128)
  have Q1 := boxBlk w0a o0 #[stv qx.1, .int .i64 (qx.2 : Nat)] 128
  have H1 : WrS _ _ wb v0 := H0a.step (boxStep (fun _ => False) w0a o0 (.cells #[stv qx.1, .int .i64 (qx.2 : Nat)] 128)) id id
  have T1 := T0a.trans st2
  have E1 := E0a.stp st2
  have S1 := S0a.stp st2
  have FX1 := FX0a.stp st2
  clear p0 p1 p2 p3 p4 pf T0a E0a S0a FX0a H0a st2
  generalize w0a.alloc (.cells #[stv qx.1, .int .i64 (qx.2 : Nat)] 128) = w1 at *
  generalize newLab w0a o0 0 = o1 at *
  generalize w0a.heap.size = qb at *
  obtain ⟨v1, hv1⟩ : ∃ z, z = v0 := ⟨_, rfl⟩
  rw [← hv1] at H1
  obtain ⟨p0, p1, p2, p3, p4, pf⟩ := box5 E1.1
  have c := openE_r H1 (by have := F.a; have := F.m; rw [hv1, hv0]; omega) (by have := F.a; have := F.m; rw [hv1, hv0]; omega)
  obtain ⟨v2, hv2⟩ : ∃ z, z = v1.ent := ⟨_, rfl⟩
  go_wp2_with fail
  refine c.mono ?_
  rintro x2 w2 ⟨rfl, o2, H2', st2⟩
  have H2 : WrS w2 o2 wb v2 := by rw [hv2]; exact H2'
  have T2 := T1.trans st2
  have E2 := E1.stp st2
  have S2 := S1.stp st2
  have FX2 := FX1.stp st2
  have Q2 := Q1.stp st2
  clear c p0 p1 p2 p3 p4 pf T1 E1 S1 FX1 H1 H2' st2 Q1
  obtain ⟨p0, p1, p2, p3, p4, pf⟩ := box5 E2.1
  have c := quantE_r H2 (by have := F.b; have := F.n; rw [hv2, hv1, hv0]; simp only [St.ent]; omega) (by have := F.b; have := F.n; rw [hv2, hv1, hv0]; simp only [St.ent]; omega)
  obtain ⟨v3, hv3⟩ : ∃ z, z = v2.qent := ⟨_, rfl⟩
  go_wp2_with fail
  refine c.mono ?_
  rintro x3 w3 ⟨rfl, o3, H3', st3⟩
  have H3 : WrS w3 o3 wb v3 := by rw [hv3]; exact H3'
  have T3 := T2.trans st3
  have E3 := E2.stp st3
  have S3 := S2.stp st3
  have FX3 := FX2.stp st3
  have Q3 := Q2.stp st3
  clear c p0 p1 p2 p3 p4 pf T2 E2 S2 FX2 H2 H3' st3 Q2
  obtain ⟨p0, p1, p2, p3, p4, pf⟩ := box5 E3.1
  have U : Fit e.kids.size v3 := by
    rw [hv3, hv2, hv1, hv0]
    exact F.qent
  have G3 : Gr 0 0 0 v3 v3 := Gr.refl _
  obtain ⟨r0, r1, rf⟩ := cells2k Q3.1
  have hl3 : (qx.1 ++ [32] ++ e.nm ++ [32, 105, 110, 32] : List UInt8).length ≤ 22 := by simp only [List.length_append, List.length_cons, List.length_nil]; omega
  have hf3 := (U.gr (D' := 0) G3 (by omega) (by omega) (by omega) (by omega) (by omega)).t
  have c := lay_r (qx.1 ++ [32] ++ e.nm ++ [32, 105, 110, 32]) H3 (by omega)
  obtain ⟨v4, hv4⟩ : ∃ z, z = v3.lay (qx.1 ++ [32] ++ e.nm ++ [32, 105, 110, 32]) := ⟨_, rfl⟩
  go_wp2_with fail
  refine c.mono ?_
  rintro x4 w4 ⟨rfl, o4, H4', st4⟩
  have H4 : WrS w4 o4 wb v4 := by rw [hv4]; exact H4'
  have T4 := T3.trans st4
  have E4 := E3.stp st4
  have S4 := S3.stp st4
  have FX4 := FX3.stp st4
  have Q4 := Q3.stp st4
  clear c p0 p1 p2 p3 p4 pf T3 E3 S3 FX3 H3 H4' st4 Q3
  obtain ⟨p0, p1, p2, p3, p4, pf⟩ := box5 E4.1
  have G4 := G3.lay (qx.1 ++ [32] ++ e.nm ++ [32, 105, 110, 32]) (Nat.add_le_add_left hl3 _)
  rw [← hv4] at G4
  clear G3 hl3 hf3
  clear r0 r1 rf
  obtain ⟨b4, off4, ak4, ck4, ho4, q0, q1, q2, q3, q4, SK⟩ := Sl.kidP (x := Fs.nil) (y := x0) (by rw [HK.out] at S4; exact S4) 0 rfl
  obtain ⟨rfl, rfl⟩ := addr_inj ho4
  clear ho4
  simp only [Nat.reduceMul, Nat.add_zero] at q0 q1 q2 q3 q4
  have hc4 := IH x0 ak4 ck4 (0) wb v4 w4 o4 (by omega) hx0 (by omega) (U.gr G4 (by omega) (by omega) (by omega) (by omega) (by omega)) FX4 SK H4
  rw [exV_out] at hc4
  have hg4 := Ex.gr hx0 (0) v4
  have c := hc4
  obtain ⟨v5, hv5⟩ : ∃ z, z = wEx x0 (0) v4 := ⟨_, rfl⟩
  go_wp2_with fail
  refine c.mono ?_
  rintro x5 w5 ⟨rfl, o5, H5', st5⟩
  have H5 : WrS w5 o5 wb v5 := by rw [hv5]; exact H5'
  have T5 := T4.trans st5
  have E5 := E4.stp st5
  have S5 := S4.stp st5
  have FX5 := FX4.stp st5
  have Q5 := Q4.stp st5
  clear c p0 p1 p2 p3 p4 pf T4 E4 S4 FX4 H4 H5' st5 Q4
  obtain ⟨p0, p1, p2, p3, p4, pf⟩ := box5 E5.1
  have G5 := G4.trans hg4
  rw [← hv5] at G5
  clear G4 hg4 hc4 q0 q1 q2 q3 q4 SK
  have hl5 : ([58, 32] : List UInt8).length ≤ 2 := by simp
  have hf5 := (U.gr (D' := 0) G5 (by omega) (by omega) (by omega) (by omega) (by omega)).t
  have c := lay_r ([58, 32]) H5 (by omega)
  obtain ⟨v6, hv6⟩ : ∃ z, z = v5.lay ([58, 32]) := ⟨_, rfl⟩
  go_wp2_with fail
  refine c.mono ?_
  rintro x6 w6 ⟨rfl, o6, H6', st6⟩
  have H6 : WrS w6 o6 wb v6 := by rw [hv6]; exact H6'
  have T6 := T5.trans st6
  have E6 := E5.stp st6
  have S6 := S5.stp st6
  have FX6 := FX5.stp st6
  have Q6 := Q5.stp st6
  clear c p0 p1 p2 p3 p4 pf T5 E5 S5 FX5 H5 H6' st6 Q5
  obtain ⟨p0, p1, p2, p3, p4, pf⟩ := box5 E6.1
  have G6 := G5.lay ([58, 32]) (Nat.add_le_add_left hl5 _)
  rw [← hv6] at G6
  clear G5 hl5 hf5
  obtain ⟨b6, off6, ak6, ck6, ho6, q0, q1, q2, q3, q4, SK⟩ := Sl.kidP (x := (Fs.ex x0 Fs.nil)) (y := x1) (by rw [HK.out] at S6; exact S6) 1 rfl
  obtain ⟨rfl, rfl⟩ := addr_inj ho6
  clear ho6
  simp only [Nat.reduceMul, Nat.add_zero] at q0 q1 q2 q3 q4
  have hc6 := IH x1 ak6 ck6 (0) wb v6 w6 o6 (by omega) hx1 (by omega) (U.gr G6 (by omega) (by omega) (by omega) (by omega) (by omega)) FX6 SK H6
  rw [exV_out] at hc6
  have hg6 := Ex.gr hx1 (0) v6
  have c := hc6
  obtain ⟨v7, hv7⟩ : ∃ z, z = wEx x1 (0) v6 := ⟨_, rfl⟩
  go_wp2_with fail
  refine c.mono ?_
  rintro x7 w7 ⟨rfl, o7, H7', st7⟩
  have H7 : WrS w7 o7 wb v7 := by rw [hv7]; exact H7'
  have T7 := T6.trans st7
  have E7 := E6.stp st7
  have S7 := S6.stp st7
  have FX7 := FX6.stp st7
  have Q7 := Q6.stp st7
  clear c p0 p1 p2 p3 p4 pf T6 E6 S6 FX6 H6 H7' st7 Q6
  obtain ⟨p0, p1, p2, p3, p4, pf⟩ := box5 E7.1
  have G7 := G6.trans hg6
  rw [← hv7] at G7
  clear G6 hg6 hc6 q0 q1 q2 q3 q4 SK
  have ga := G7.a
  have ea7 : v7.b = s.b + 1 := by
    rw [G7.b, hv3, hv2, hv1, hv0]; rfl
  have K7 : Wr w7 o7 wb v7.t v7.a v7.m (s.b + 1) v7.n := by rw [← ea7]; exact H7
  have c := quantL_r K7 (by have := F.b; omega)
  obtain ⟨v8, hv8⟩ : ∃ z, z = v7.qlea := ⟨_, rfl⟩
  go_wp2_with fail
  refine c.mono ?_
  rintro x8 w8 ⟨rfl, o8, H8', st8⟩
  have H8 : WrS w8 o8 wb v8 := by rw [hv8]; show Wr _ _ _ v7.t v7.a v7.m (v7.b - 1) v7.n; rw [ea7]; exact H8'
  have T8 := T7.trans st8
  have E8 := E7.stp st8
  have S8 := S7.stp st8
  have FX8 := FX7.stp st8
  have Q8 := Q7.stp st8
  clear c p0 p1 p2 p3 p4 pf T7 E7 S7 FX7 H7 H8' st8 Q7
  obtain ⟨p0, p1, p2, p3, p4, pf⟩ := box5 E8.1
  have ea8 : v8.a = s.a + 1 := by
    rw [hv8]; show v7.a = _; rw [ga, hv3, hv2, hv1, hv0]; rfl
  have K8 : Wr w8 o8 wb v8.t (s.a + 1) v8.m v8.b v8.n := by rw [← ea8]; exact H8
  have c := openL_r K8 (by have := F.a; omega)
  obtain ⟨v9, hv9⟩ : ∃ z, z = v8.lea := ⟨_, rfl⟩
  go_wp2_with fail
  refine c.mono ?_
  rintro x9 w9 ⟨rfl, o9, H9', st9⟩
  have H9 : WrS w9 o9 wb v9 := by rw [hv9]; show Wr _ _ _ v8.t (v8.a - 1) v8.m v8.b v8.n; rw [ea8]; exact H9'
  have T9 := T8.trans st9
  have E9 := E8.stp st9
  have S9 := S8.stp st9
  have FX9 := FX8.stp st9
  have Q9 := Q8.stp st9
  clear c p0 p1 p2 p3 p4 pf T8 E8 S8 FX8 H8 H9' st9 Q8
  obtain ⟨p0, p1, p2, p3, p4, pf⟩ := box5 E9.1
  go_wp2
  go_end0
  refine ⟨rfl, o9, ?_, T9⟩
  have hT : (wFs e.kids (quS e.n e.nm) 0 s.ent.qent).qlea.lea = v9 := by
    rw [HK.out, wFs_ex, wFs_ex, hv9, hv8, hv7, hv6, hv5, hv4, hv3, hv2, hv1, hv0]
    unfold quS
    rw [hqw2]
    rfl
  rw [hT]
  exact H9
end Go.Proofs.YtojleoionpnjpaaGreatDoor
