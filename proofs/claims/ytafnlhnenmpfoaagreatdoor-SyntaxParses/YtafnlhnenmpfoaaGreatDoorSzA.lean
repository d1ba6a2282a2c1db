/- The writer's calls: what they leave. -/
import Derived.Test.YtafnlhnenmpfoaaGreatDoorSynY
namespace Go.Proofs.YtafnlhnenmpfoaaGreatDoor
set_option linter.unusedVariables false
set_option linter.unusedSimpArgs false

/-- The writer: its text, what is open, how much at most; quantifiers likewise. -/
structure St where
  t : List UInt8
  a : Nat
  m : Nat
  b : Nat
  n : Nat
def St.lay (s : St) (x : List UInt8) : St := ⟨s.t ++ x, s.a, s.m, s.b, s.n⟩
def St.ent (s : St) : St := ⟨s.t, s.a + 1, max s.m (s.a + 1), s.b, s.n⟩
def St.lea (s : St) : St := ⟨s.t, s.a - 1, s.m, s.b, s.n⟩
def St.qent (s : St) : St := ⟨s.t, s.a, s.m, s.b + 1, max s.n (s.b + 1)⟩
def St.qlea (s : St) : St := ⟨s.t, s.a, s.m, s.b - 1, s.n⟩
def qword (n : Int) : List UInt8 := match quantOf n with | some x => x.1 | none => []
def cword (n : Int) : List UInt8 := match callOf n with | some x => x.1 | none => []
/-- What stands ahead of a kid, and the row that is asked of it. -/
abbrev Sep := Nat → List UInt8 × Nat
def comS : Sep := fun i => (if i = 0 then [] else [44, 32], 0)
def ifS : Sep := fun i => (if i = 0 then [105, 102, 32] else if i = 1 then [32, 116, 104, 101, 110, 32] else [32, 101, 108, 115, 101, 32], 0)
def quS (n : Int) (nm : List UInt8) : Sep := fun i => (if i = 0 then qword n ++ [32] ++ nm ++ [32, 105, 110, 32] else [58, 32], 0)
def opS (k : Int) : Sep := fun i => match opOf k with | some x => if i = 0 then ([], x.2.2.2.1) else ([32] ++ x.1 ++ [32], x.2.2.2.2) | none => ([], 0)
/-- A part that opens nothing. -/
def wPlain (k n : Int) (nm : List UInt8) (K : Sep → St → St) (s : St) : St :=
  if k = 1 then s.lay (Go.Lib.itoa n)
  else if k = 2 then s.lay (Go.Lib.formatBool (n == 1))
  else if k = 3 then (s.lay [64]).lay (Go.Lib.itoa n)
  else if k = 4 ∨ k = 23 then s.lay nm
  else if k = 22 then s.lay [118, 101, 114, 116, 105, 99, 101, 115]
  else K (opS k) s
/-- Kids between two brackets. -/
def wList (x y : List UInt8) (K : Sep → St → St) (s : St) : St := ((K comS (s.ent.lay x)).lay y).lea
/-- A part where its own row is asked for. -/
def wNode (k n : Int) (nm : List UInt8) (K : Sep → St → St) (s : St) : St :=
  if k = 7 then (K (fun _ => ([110, 111, 116, 32], 3)) s.ent).lea
  else if k = 6 then (K (fun _ => ([45], 7)) s.ent).lea
  else if k = 19 then (K ifS s.ent).lea
  else if k = 21 then ((K (quS n nm) s.ent.qent).qlea).lea
  else if k = 20 then wList [40] [41] K (s.lay (cword n))
  else if k = 24 then wList [40] [41] K (s.lay [97, 114, 111, 117, 110, 100])
  else if k = 25 then wList [123] [125] K s
  else wPlain k n nm K s
def wE (k n : Int) (nm : List UInt8) (asked : Nat) (K : Sep → St → St) (s : St) : St :=
  if rowOf k < asked then ((wNode k n nm K (s.ent.lay [40])).lay [41]).lea else wNode k n nm K s
/-- Trees in a row. -/
def wFs : Fs → Sep → Nat → St → St
  | ⟨none⟩, _, _, s => s
  | ⟨some ⟨k, n, nm, a, ks, r⟩⟩, f, i, s => wFs r f (i + 1) (wE k n nm (f i).2 (fun g s => wFs ks g 0 s) (s.lay (f i).1))
def wEx (e : Ex) (asked : Nat) (s : St) : St := wE e.k e.n e.nm asked (fun g s => wFs e.kids g 0 s) s

/-- d parts are laid. -/
structure Gr (c d q : Nat) (s s' : St) : Prop where
  a : s'.a = s.a
  b : s'.b = s.b
  t : s'.t.length ≤ s.t.length + c
  m : s'.m ≤ max s.m (s.a + d)
  n : s'.n ≤ max s.n (s.b + q)
theorem Gr.refl (s : St) : Gr 0 0 0 s s := ⟨rfl, rfl, by omega, by omega, by omega⟩
theorem Gr.lay {c d q : Nat} {s s' : St} (h : Gr c d q s s') (x : List UInt8) {c' : Nat} (hc : c + x.length ≤ c') : Gr c' d q s (s'.lay x) :=
  ⟨h.a, h.b, by have := h.t; simp only [St.lay, List.length_append]; omega, h.m, h.n⟩
theorem Gr.trans {c d q c' d' q' : Nat} {s s' s'' : St} (h : Gr c d q s s') (k : Gr c' d' q' s' s'') : Gr (c + c') (max d d') (max q q') s s'' := by
  obtain ⟨h1, h2, h3, h4, h5⟩ := h
  obtain ⟨k1, k2, k3, k4, k5⟩ := k
  exact ⟨by omega, by omega, by omega, by omega, by omega⟩
theorem Gr.mono {c d q c' d' q' : Nat} {s s' : St} (h : Gr c d q s s') (h1 : c ≤ c') (h2 : d ≤ d') (h3 : q ≤ q') : Gr c' d' q' s s' := by
  obtain ⟨k1, k2, k3, k4, k5⟩ := h
  exact ⟨k1, k2, by omega, by omega, by omega⟩
theorem Gr.wrap {c d q : Nat} {s s' : St} (h : Gr c d q s.ent s') : Gr c (d + 1) q s s'.lea := by
  obtain ⟨k1, k2, k3, k4, k5⟩ := h
  simp only [St.ent] at k1 k2 k3 k4 k5
  exact ⟨by simp only [St.lea]; omega, k2, k3, by simp only [St.lea]; omega, k5⟩
theorem Gr.qwrap {c d q : Nat} {s s' : St} (h : Gr c d q s.qent s') : Gr c d (q + 1) s s'.qlea := by
  obtain ⟨k1, k2, k3, k4, k5⟩ := h
  simp only [St.qent] at k1 k2 k3 k4 k5
  exact ⟨k1, by simp only [St.qlea]; omega, k3, k4, by simp only [St.qlea]; omega⟩
/-- Names are short, numbers fit. -/
def Fs.neat : Fs → Prop
  | ⟨none⟩ => True
  | ⟨some ⟨_, n, nm, _, ks, r⟩⟩ => nm.length ≤ 12 ∧ -9223372036854775808 ≤ n ∧ n ≤ 9223372036854775807 ∧ ks.neat ∧ r.neat
theorem qword_len (n : Int) : (qword n).length ≤ 5 := by
  unfold qword
  split
  · rename_i x h
    have hm := List.mem_of_find?_eq_some h
    have : ∀ x ∈ quantsL, x.1.length ≤ 5 := by decide
    exact this x hm
  · simp
theorem cword_len (n : Int) : (cword n).length ≤ 10 := by
  unfold cword
  split
  · rename_i x h
    have hm := List.mem_of_find?_eq_some h
    have : ∀ x ∈ callsL, x.1.length ≤ 10 := by decide
    exact this x hm
  · simp
theorem opS_len (k : Int) (i : Nat) : (opS k i).1.length ≤ 22 := by
  unfold opS
  split
  · rename_i x h
    have hm := List.mem_of_find?_eq_some h
    have : ∀ x ∈ opsL, x.1.length ≤ 3 := by decide
    have := this x hm
    split <;> simp <;> omega
  · simp
theorem fbool_len (b : Bool) : (Go.Lib.formatBool b).length ≤ 5 := by
  cases b <;> decide
/-- What is laid for kids, where what stands ahead of each is short. -/
def KGr (N : Nat) (K : Sep → St → St) : Prop := ∀ (g : Sep) (s : St), (∀ i, (g i).1.length ≤ 22) → Gr (N * 100) (N * 2) N s (K g s)
theorem wPlain_gr {N : Nat} {K : Sep → St → St} (hK : KGr N K) (k n : Int) (nm : List UInt8) (h1 : nm.length ≤ 12) (h2 : -9223372036854775808 ≤ n) (h3 : n ≤ 9223372036854775807) (s : St) : Gr (N * 100 + 40) (N * 2) N s (wPlain k n nm K s) := by
  have hi := Go.Lib.itoa_length_le n h2 h3
  have hz : Gr (N * 100) (N * 2) N s s := (Gr.refl s).mono (by omega) (by omega) (by omega)
  unfold wPlain
  split
  · exact hz.lay _ (by omega)
  · split
    · have := fbool_len (n == 1)
      exact hz.lay _ (by omega)
    · split
      · exact (hz.lay [64] (c' := N * 100 + 1) (by simp)).lay _ (by omega)
      · split
        · exact hz.lay _ (by omega)
        · split
          · exact hz.lay _ (by simp)
          · exact (hK _ s (opS_len k)).mono (by omega) (by omega) (by omega)
theorem wList_gr {N : Nat} {K : Sep → St → St} (hK : KGr N K) (x y : List UInt8) (hx : x.length ≤ 1) (hy : y.length ≤ 1) (s : St) : Gr (N * 100 + 2) (N * 2 + 1) N s (wList x y K s) := by
  unfold wList
  refine Gr.wrap ?_
  have h1 : Gr 1 0 0 s.ent (s.ent.lay x) := (Gr.refl _).lay x (by omega)
  have h2 := h1.trans (hK comS (s.ent.lay x) (fun i => by unfold comS; split <;> simp))
  exact (h2.lay y (c' := N * 100 + 2) (by omega)).mono (by omega) (by omega) (by omega)
theorem wNode_gr {N : Nat} {K : Sep → St → St} (hK : KGr N K) (k n : Int) (nm : List UInt8) (h1 : nm.length ≤ 12) (h2 : -9223372036854775808 ≤ n) (h3 : n ≤ 9223372036854775807) (s : St) : Gr (N * 100 + 40) (N * 2 + 1) (N + 1) s (wNode k n nm K s) := by
  have l1 := qword_len n
  have l2 := cword_len n
  unfold wNode
  split
  · exact (Gr.wrap (hK _ s.ent (fun i => by simp))).mono (by omega) (by omega) (by omega)
  · split
    · exact (Gr.wrap (hK _ s.ent (fun i => by simp))).mono (by omega) (by omega) (by omega)
    · split
      · exact (Gr.wrap (hK _ s.ent (fun i => by unfold ifS; dsimp only; split <;> (try split) <;> simp))).mono (by omega) (by omega) (by omega)
      · split
        · exact (Gr.wrap (Gr.qwrap (hK _ s.ent.qent (fun i => by unfold quS; dsimp only; split <;> simp <;> omega)))).mono (by omega) (by omega) (by omega)
        · split
          · have h0 : Gr 10 0 0 s (s.lay (cword n)) := (Gr.refl s).lay _ (by omega)
            exact (h0.trans (wList_gr hK [40] [41] (by simp) (by simp) _)).mono (by omega) (by omega) (by omega)
          · split
            · have h0 : Gr 10 0 0 s (s.lay [97, 114, 111, 117, 110, 100]) := (Gr.refl s).lay _ (by simp)
              exact (h0.trans (wList_gr hK [40] [41] (by simp) (by simp) _)).mono (by omega) (by omega) (by omega)
            · split
              · exact (wList_gr hK [123] [125] (by simp) (by simp) _).mono (by omega) (by omega) (by omega)
              · exact (wPlain_gr hK k n nm h1 h2 h3 s).mono (by omega) (by omega) (by omega)
theorem wE_gr {N : Nat} {K : Sep → St → St} (hK : KGr N K) (k n : Int) (nm : List UInt8) (asked : Nat) (h1 : nm.length ≤ 12) (h2 : -9223372036854775808 ≤ n) (h3 : n ≤ 9223372036854775807) (s : St) : Gr (N * 100 + 42) (N * 2 + 2) (N + 1) s (wE k n nm asked K s) := by
  unfold wE
  split
  · refine Gr.wrap ?_
    have h0 : Gr 1 0 0 s.ent (s.ent.lay [40]) := (Gr.refl _).lay _ (by simp)
    exact ((h0.trans (wNode_gr hK k n nm h1 h2 h3 _)).lay [41] (c' := N * 100 + 42) (by simp only [List.length_cons, List.length_nil]; omega)).mono (by omega) (by omega) (by omega)
  · exact (wNode_gr hK k n nm h1 h2 h3 s).mono (by omega) (by omega) (by omega)
theorem wFs_gr : ∀ (f : Fs), f.neat → ∀ (g : Sep) (i : Nat) (s : St), (∀ i, (g i).1.length ≤ 22) → Gr (f.size * 100) (f.size * 2) f.size s (wFs f g i s)
  | ⟨none⟩, h, g, i, s, hg => Gr.refl s
  | ⟨some ⟨k, n, nm, a, ks, r⟩⟩, h, g, i, s, hg => by
    have hK : KGr ks.size (fun g s => wFs ks g 0 s) := fun g s hg => wFs_gr ks h.2.2.2.1 g 0 s hg
    have h0 : Gr 22 0 0 s (s.lay (g i).1) := (Gr.refl s).lay _ (by have := hg i; omega)
    have h1 := h0.trans (wE_gr hK k n nm (g i).2 h.1 h.2.1 h.2.2.1 (s.lay (g i).1))
    have h2 := h1.trans (wFs_gr r h.2.2.2.2 g (i + 1) _ hg)
    exact h2.mono (by simp only [Fs.size]; omega) (by simp only [Fs.size]; omega) (by simp only [Fs.size]; omega)
end Go.Proofs.YtafnlhnenmpfoaaGreatDoor
namespace Go.Proofs.YtafnlhnenmpfoaaGreatDoor
open Go.ChangeShapes Go.WideShapes Go.ChangeAt Go.RowKit
set_option linter.unusedVariables false
set_option linter.unusedSimpArgs false

abbrev WrS (w : World) (o : Nat → Nat) (wb : Nat) (s : St) : Prop := Wr w o wb s.t s.a s.m s.b s.n
abbrev PostS (w : World) (o : Nat → Nat) (wb : Nat) (s : St) : Ending → World → Prop := PostW w o wb s.t s.a s.m s.b s.n
/-- Blocks of no label. -/
abbrev L0 (o : Nat → Nat) : Nat → Prop := fun b => o b = 0
theorem Sl.stp {w w' : World} {o o' : Nat → Nat} {f : Fs} {ao : Option Addr} (h : Sl w (L0 o) f ao) (s : Step I12 w o w' o') : Sl w' (L0 o') f ao :=
  h.mono (fun i hp hl => s.block i hl (fun hi => by rcases hi with hi | hi <;> (have hp : o i = 0 := hp; omega))) s.size (fun i hp hl => (s.lab i hl).trans hp)
theorem Blk.stp {w w' : World} {o o' : Nat → Nat} {b : Nat} {ob : Obj} (h : Blk w o 0 b ob) (s : Step I12 w o w' o') : Blk w' o' 0 b ob := h.step s (by simp [I12])
theorem Step.ofB {I : Nat → Prop} {w w' : World} (o : Nat → Nat) (b : Below w.heap.size w w') : Step I w o w' o := ⟨b.os, b.tape, b.output, b.size, fun _ _ => rfl, fun k hk _ => b.block k hk⟩
/-- A new box. -/
theorem boxStep (I : Nat → Prop) (w : World) (o : Nat → Nat) (ob : Obj) : Step I w o (w.alloc ob) (newLab w o 0) := ((Step.refl I w o).labelled 0).alloc ob
theorem boxBlk (w : World) (o : Nat → Nat) (cs : Array Value) (t : TypeId) : Blk (w.alloc (.cells cs t)) (newLab w o 0) 0 w.heap.size (.cells cs t (0, 0)) := ⟨heap_alloc_new w _, newLab_new (Nat.le_refl _)⟩
/-- What lies fast. -/
structure FixW (o : Nat → Nat) (w : World) : Prop where
  op : OpW w
  cl : ClW w
  qn : QnW w
  p : P10 w
  lo : o 3 = 0
  lc : o 0 = 0
  lq : o 2 = 0
  lp : o 6 = 0
theorem p10_blk {w w' : World} (h : P10 w) (hb : 6 < w.heap.size → w'.heap[6]? = w.heap[6]?) : P10 w' ∧ 6 < w.heap.size := by
  have hm : Tryz.prog.globalNamed "internal/strconv.uint64pow10" = some 6 := atoiLay.m17
  unfold P10 Go.Lib.TabIs at h ⊢
  simp only [World.var?, hm, Option.bind_some] at h ⊢
  have hlt : 6 < w.heap.size := by
    by_cases hb : 6 < w.heap.size
    · exact hb
    · have h2 : w.heap[6]? = none := Array.getElem?_eq_none (by omega)
      rw [h2] at h
      cases h
  rw [hb hlt]
  exact ⟨h, hlt⟩
theorem FixW.stp {w w' : World} {o o' : Nat → Nat} (h : FixW o w) (s : Step I12 w o w' o') : FixW o' w' := by
  have n0 : ∀ k, o k = 0 → ¬ I12 (o k) := fun k hk hi => by rcases hi with hi | hi <;> omega
  have l1 := h.op.lt
  have l2 := h.cl.lt
  have l3 := h.qn.lt
  have hp := p10_blk h.p (fun hl => s.block _ hl (n0 _ h.lp))
  obtain ⟨⟨t1, f1, h1⟩, ⟨t2, f2, h2⟩, ⟨t3, f3, h3⟩, h4, g1, g2, g3, g4⟩ := h
  exact ⟨⟨t1, f1, (s.block _ l1 (n0 _ g1)).trans h1⟩, ⟨t2, f2, (s.block _ l2 (n0 _ g2)).trans h2⟩, ⟨t3, f3, (s.block _ l3 (n0 _ g3)).trans h3⟩, hp.1, (s.lab _ l1).trans g1, (s.lab _ l2).trans g2, (s.lab _ l3).trans g3, (s.lab _ hp.2).trans g4⟩
/-- There is room for d parts more. -/
structure Fit (d : Nat) (s : St) : Prop where
  t : s.t.length + 100 * d ≤ 1000000
  a : s.a + 2 * d ≤ 100000
  m : s.m ≤ 100000
  b : s.b + d ≤ 100000
  n : s.n ≤ 100000
/-- There is room for d parts more, and for one whose parentheses stand already. -/
structure Fit1 (d : Nat) (s : St) : Prop where
  t : s.t.length + 100 * d + 80 ≤ 1000000
  a : s.a + 2 * d + 1 ≤ 100000
  m : s.m ≤ 100000
  b : s.b + d + 1 ≤ 100000
  n : s.n ≤ 100000
theorem Fit.one {d : Nat} {s : St} (F : Fit (d + 1) s) : Fit1 d s := by
  obtain ⟨f1, f2, f3, f4, f5⟩ := F
  exact ⟨by omega, by omega, f3, by omega, f5⟩
theorem Fit1.low {d : Nat} {s : St} (F : Fit1 d s) : Fit d s := by
  obtain ⟨f1, f2, f3, f4, f5⟩ := F
  exact ⟨by omega, by omega, f3, by omega, f5⟩
/-- The parts are such as may be written. -/
def okP (k n : Int) (nm : List UInt8) (m : Nat) : Prop := numB k n = true ∧ namB k nm = true ∧ kidB k n m = true ∧ nm.length ≤ 12 ∧ -9223372036854775808 ≤ n ∧ n ≤ 9223372036854775807
def Fs.okA : Fs → Prop
  | ⟨none⟩ => True
  | ⟨some ⟨k, n, nm, _, ks, r⟩⟩ => okP k n nm ks.len ∧ ks.okA ∧ r.okA
def Ex.okA (e : Ex) : Prop := okP e.k e.n e.nm e.kids.len ∧ e.kids.okA
theorem Fs.okA_neat : ∀ {f : Fs}, f.okA → f.neat
  | ⟨none⟩, h => trivial
  | ⟨some ⟨k, n, nm, a, ks, r⟩⟩, h => ⟨h.1.2.2.2.1, h.1.2.2.2.2.1, h.1.2.2.2.2.2, Fs.okA_neat h.2.1, Fs.okA_neat h.2.2⟩
theorem Ex.gr {e : Ex} (h : e.okA) (asked : Nat) (s : St) : Gr (e.kids.size * 100 + 42) (e.kids.size * 2 + 2) (e.kids.size + 1) s (wEx e asked s) :=
  wE_gr (fun g s hg => wFs_gr e.kids (Fs.okA_neat h.2) g 0 s hg) e.k e.n e.nm asked h.1.2.2.2.1 h.1.2.2.2.2.1 h.1.2.2.2.2.2 s
/-- The program's part lays as the plain writer does. -/
def PartOk (N : Nat) : Prop := ∀ (e : Ex) (ao : Option Addr) (cap asked wb : Nat) (s : St) (w : World) (o : Nat → Nat), e.kids.size < N → e.okA → asked ≤ 8 → Fit (e.kids.size + 1) s → FixW o w → Sl w (L0 o) e.kids ao → WrS w o wb s →
  Calls Tryz.prog 62 #[.pointer (some ⟨wb, 0, none⟩), exV e ao cap, .int .i64 (asked : Nat)] w (PostS w o wb (wEx e asked s))
set_option maxRecDepth 100000 in
theorem prefixed_r {N : Nat} (IH : PartOk N) (x : Ex) (ao : Option Addr) (cap asked wb : Nat) (tx : List UInt8) (s : St) (w : World) (o : Nat → Nat) (hN : x.kids.size < N) (hx : x.okA) (ha : asked ≤ 8) (htx : tx.length ≤ 22) (F : Fit1 (x.kids.size + 1) s) (FX : FixW o w) (S : Sl w (L0 o) x.kids ao) (H : WrS w o wb s) :
    Calls Tryz.prog 101 #[.pointer (some ⟨wb, 0, none⟩), stv tx, exV x ao cap, .int .i64 (asked : Nat)] w (PostS w o wb (wEx x asked (s.ent.lay tx)).lea) := by
  have st0 := boxStep I12 w o (.cells #[.int .i64 x.k, .int .i64 x.n, stv x.nm, .slice ao x.kids.len cap, .int .i64 x.a] 25)
  have E0 := boxBlk w o #[.int .i64 x.k, .int .i64 x.n, stv x.nm, .slice ao x.kids.len cap, .int .i64 x.a] 25
  have H0 : WrS _ _ wb s := H.step (boxStep (fun _ => False) w o (.cells #[.int .i64 x.k, .int .i64 x.n, stv x.nm, .slice ao x.kids.len cap, .int .i64 x.a] 25)) id id
  have S0 := S.stp st0
  have FX0 := FX.stp st0
  have c1 := openE_r H0 (by have := F.a; omega) (by have := F.m; omega)
  have hgr := Ex.gr hx asked (s.ent.lay tx)
  rw [exV_out]
  go_enter Tryz.func101, Tryz.ntmps101
  go_upto_region 1 with fail
  generalize w.alloc (.cells #[.int .i64 x.k, .int .i64 x.n, stv x.nm, .slice ao x.kids.len cap, .int .i64 x.a] 25) = w0 at *
  generalize newLab w o 0 = o0 at *
  generalize w.heap.size = bx at *
  go_wp2_with fail
  refine c1.mono ?_
  rintro e w1 ⟨rfl, o1, H1, st1⟩
  have H1 : WrS w1 o1 wb s.ent := H1
  have T1 := st0.trans st1
  have E1 := E0.stp st1
  have S1 := S0.stp st1
  have FX1 := FX0.stp st1
  clear c1 E0 S0 FX0 H0 st0 st1
  have c2 := lay_r tx H1 (by have := F.t; simp only [St.ent]; omega)
  go_wp2_with fail
  refine c2.mono ?_
  rintro e w2 ⟨rfl, o2, H2, st2⟩
  have H2 : WrS w2 o2 wb (s.ent.lay tx) := H2
  have T2 := T1.trans st2
  have E2 := E1.stp st2
  have S2 := S1.stp st2
  have FX2 := FX1.stp st2
  clear c2 E1 S1 FX1 H1 st2 T1
  have F2 : Fit (x.kids.size + 1) (s.ent.lay tx) := by
    obtain ⟨f1, f2, f3, f4, f5⟩ := F
    exact ⟨by simp only [St.lay, St.ent, List.length_append]; omega, by simp only [St.lay, St.ent]; omega, by simp only [St.lay, St.ent]; omega, by simp only [St.lay, St.ent]; omega, by simp only [St.lay, St.ent]; omega⟩
  obtain ⟨p0, p1, p2, p3, p4, pf⟩ := box5 E2.1
  have c3 := IH x ao cap asked wb (s.ent.lay tx) w2 o2 hN hx ha F2 FX2 S2 H2
  rw [exV_out] at c3
  go_wp2_with fail
  refine c3.mono ?_
  rintro e w3 ⟨rfl, o3, H3, st3⟩
  have T3 := T2.trans st3
  clear c3 T2 st3 E2 S2 FX2 H2 p0 p1 p2 p3 p4 pf
  have ea : (wEx x asked (s.ent.lay tx)).a = s.a + 1 := hgr.a
  rw [ea] at H3
  have c4 := openL_r H3 (by have := F.a; omega)
  go_wp2_with fail
  refine c4.mono ?_
  rintro e w4 ⟨rfl, o4, H4, st4⟩
  have T4 := T3.trans st4
  clear c4 st4 H3 T3
  go_wp2
  go_end0
  refine ⟨rfl, o4, ?_, T4⟩
  have e2 : (wEx x asked (s.ent.lay tx)).lea.a = s.a := by simp only [St.lea, ea]; omega
  rw [e2]
  exact H4
end Go.Proofs.YtafnlhnenmpfoaaGreatDoor
