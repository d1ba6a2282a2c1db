/- A tree that came in, opened to its cells. -/
import Derived.Test.YtojleoionpnjpaaGreatDoorRowK11
namespace Go.Proofs.YtojleoionpnjpaaGreatDoor
open Go.ChangeShapes Go.WideShapes Go.ChangeAt Go.RowKit
set_option linter.unusedVariables false

/-- Cells cut into pieces of k. -/
theorem cut_flat {α : Type} (k : Nat) (C : α → List Value) : ∀ (L : List α) (cs : List Value), cs.length = L.length * k → (∀ i (h : i < L.length), (cs.drop (i * k)).take k = C L[i]) → cs = L.flatMap C
  | [], cs, hl, h => by
    have : cs.length = 0 := by simpa using hl
    rw [List.length_eq_zero_iff.1 this]
    rfl
  | z :: L, cs, hl, h => by
    have h0 := h 0 (by simp)
    simp only [Nat.zero_mul, List.drop_zero, List.getElem_cons_zero] at h0
    have ih := cut_flat k C L (cs.drop k) (by simp [hl, Nat.add_mul]) (fun i hi => by
      have := h (i + 1) (by simp; omega)
      rw [List.getElem_cons_succ] at this
      rw [← this, List.drop_drop]
      congr 2
      rw [Nat.add_mul]
      omega)
    rw [List.flatMap_cons, ← ih, ← h0, List.take_append_drop]
/-- An array whose elements are told by what they read as. -/
theorem tab_flat {α : Type} {W : World} {fuel : Nat} {t e : TypeId} {n k : Nat} {cs : List Value} {p : List MemPlace} (L : List α) (D : α → DataW Unit) (C : α → List Value) (ht : Tryz.prog.underlying t = some (.array n e)) (hct : Tryz.prog.cellsOf t = L.length * k) (hn : n = L.length) (hce : Tryz.prog.cellsOf e = k)
    (hE : ∀ z m l q, DataW.trod (fun _ => ()) Tryz.prog W 0 (fun _ => true) false m e l = some (D z, q) → l = C z)
    (h : DataW.trod (fun _ => ()) Tryz.prog W 0 (fun _ => true) false fuel t cs = some (.agg (L.map D), p)) : cs = L.flatMap C := by
  obtain ⟨xs, m, _, hx, hl, hlen, hf⟩ := DataW.trod_array ht h
  rw [hct] at hl
  rw [hce] at hf
  simp only [Prod.mk.injEq, DataW.agg.injEq] at hx
  refine cut_flat k C L cs hl fun i hi => ?_
  have hfi := hf i (by omega)
  have hxi : xs[i]? = some xs[i] := List.getElem?_eq_getElem (by omega)
  rw [hxi] at hfi
  have hd : (xs.map (·.1))[i]? = some (D L[i]) := by rw [← hx.1, List.getElem?_map, List.getElem?_eq_getElem hi]; rfl
  rw [List.getElem?_map, hxi] at hd
  simp only [Option.map_some, Option.some.injEq] at hd
  exact hE L[i] m _ xs[i].2 (by rw [← hd]; exact hfi)
theorem str_lit {s : ByteArray} {a : List UInt8} (h : s.data.toList = a) : Value.string s = stv a := by
  subst h
  rfl
def opD (z : List UInt8 × Nat × Nat × Nat × Nat) : DataW Unit := .agg [.lit (.string z.1), .lit (.int .i64 (z.2.1 : Nat)), .lit (.int .i64 (z.2.2.1 : Nat)), .lit (.int .i64 (z.2.2.2.1 : Nat)), .lit (.int .i64 (z.2.2.2.2 : Nat))]
def opC (z : List UInt8 × Nat × Nat × Nat × Nat) : List Value := [stv z.1, .int .i64 (z.2.1 : Nat), .int .i64 (z.2.2.1 : Nat), .int .i64 (z.2.2.2.1 : Nat), .int .i64 (z.2.2.2.2 : Nat)]
def clD (z : List UInt8 × Nat × Nat) : DataW Unit := .agg [.lit (.string z.1), .lit (.int .i64 (z.2.1 : Nat)), .lit (.int .i64 (z.2.2 : Nat))]
def clC (z : List UInt8 × Nat × Nat) : List Value := [stv z.1, .int .i64 (z.2.1 : Nat), .int .i64 (z.2.2 : Nat)]
def qnD (z : List UInt8 × Nat) : DataW Unit := .agg [.lit (.string z.1), .lit (.int .i64 (z.2 : Nat))]
def qnC (z : List UInt8 × Nat) : List Value := [stv z.1, .int .i64 (z.2 : Nat)]
theorem cellsOp : Tryz.prog.cellsOf 132 = 5 := by kernel_rfl
theorem cellsCl : Tryz.prog.cellsOf 116 = 3 := by kernel_rfl
theorem cellsQn : Tryz.prog.cellsOf 128 = 2 := by kernel_rfl
set_option maxRecDepth 100000 in
theorem op_elem {W : World} (z : List UInt8 × Nat × Nat × Nat × Nat) (m : Nat) (l : List Value) (q : List MemPlace) (h : DataW.trod (fun _ => ()) Tryz.prog W 0 (fun _ => true) false m 132 l = some (opD z, q)) : l = opC z := by
  obtain ⟨xs, k, hk, hxy, hl, hxl, hff⟩ := DataW.trod_struct Tryz.underlying132 h
  rw [cellsOp] at hl
  match xs, hxl, l, hl with
  | [y0, y1, y2, y3, y4], _, [u0, u1, u2, u3, u4], _ =>
    have g0 := hff 0 _ rfl
    have g1 := hff 1 _ rfl
    have g2 := hff 2 _ rfl
    have g3 := hff 3 _ rfl
    have g4 := hff 4 _ rfl
    simp [cellsInt, cellsStr] at g0 g1 g2 g3 g4
    obtain ⟨z0, e0, x0, _⟩ := DataW.trod_string Tryz.underlying9 g0
    obtain ⟨z1, e1, x1, _⟩ := DataW.trod_int Tryz.underlying3 g1
    obtain ⟨z2, e2, x2, _⟩ := DataW.trod_int Tryz.underlying3 g2
    obtain ⟨z3, e3, x3, _⟩ := DataW.trod_int Tryz.underlying3 g3
    obtain ⟨z4, e4, x4, _⟩ := DataW.trod_int Tryz.underlying3 g4
    subst x0 x1 x2 x3 x4
    simp only [opD, List.map_cons, List.map_nil, Prod.mk.injEq, DataW.agg.injEq, List.cons.injEq, DataW.lit.injEq, Lit.string.injEq, Lit.int.injEq, true_and, and_true] at hxy
    simp at e0 e1 e2 e3 e4
    obtain ⟨⟨h0, h1, h2, h3, h4⟩, _⟩ := hxy
    rw [e0, e1, e2, e3, e4, ← h1, ← h2, ← h3, ← h4, str_lit h0.symm]
    rfl
set_option maxRecDepth 100000 in
theorem cl_elem {W : World} (z : List UInt8 × Nat × Nat) (m : Nat) (l : List Value) (q : List MemPlace) (h : DataW.trod (fun _ => ()) Tryz.prog W 0 (fun _ => true) false m 116 l = some (clD z, q)) : l = clC z := by
  obtain ⟨xs, k, hk, hxy, hl, hxl, hff⟩ := DataW.trod_struct Tryz.underlying116 h
  rw [cellsCl] at hl
  match xs, hxl, l, hl with
  | [y0, y1, y2], _, [u0, u1, u2], _ =>
    have g0 := hff 0 _ rfl
    have g1 := hff 1 _ rfl
    have g2 := hff 2 _ rfl
    simp [cellsInt, cellsStr] at g0 g1 g2
    obtain ⟨z0, e0, x0, _⟩ := DataW.trod_string Tryz.underlying9 g0
    obtain ⟨z1, e1, x1, _⟩ := DataW.trod_int Tryz.underlying3 g1
    obtain ⟨z2, e2, x2, _⟩ := DataW.trod_int Tryz.underlying3 g2
    subst x0 x1 x2
    simp only [clD, List.map_cons, List.map_nil, Prod.mk.injEq, DataW.agg.injEq, List.cons.injEq, DataW.lit.injEq, Lit.string.injEq, Lit.int.injEq, true_and, and_true] at hxy
    simp at e0 e1 e2
    obtain ⟨⟨h0, h1, h2⟩, _⟩ := hxy
    rw [e0, e1, e2, ← h1, ← h2, str_lit h0.symm]
    rfl
set_option maxRecDepth 100000 in
theorem qn_elem {W : World} (z : List UInt8 × Nat) (m : Nat) (l : List Value) (q : List MemPlace) (h : DataW.trod (fun _ => ()) Tryz.prog W 0 (fun _ => true) false m 128 l = some (qnD z, q)) : l = qnC z := by
  obtain ⟨xs, k, hk, hxy, hl, hxl, hff⟩ := DataW.trod_struct Tryz.underlying128 h
  rw [cellsQn] at hl
  match xs, hxl, l, hl with
  | [y0, y1], _, [u0, u1], _ =>
    have g0 := hff 0 _ rfl
    have g1 := hff 1 _ rfl
    simp [cellsInt, cellsStr] at g0 g1
    obtain ⟨z0, e0, x0, _⟩ := DataW.trod_string Tryz.underlying9 g0
    obtain ⟨z1, e1, x1, _⟩ := DataW.trod_int Tryz.underlying3 g1
    subst x0 x1
    simp only [qnD, List.map_cons, List.map_nil, Prod.mk.injEq, DataW.agg.injEq, List.cons.injEq, DataW.lit.injEq, Lit.string.injEq, Lit.int.injEq, true_and, and_true] at hxy
    simp at e0 e1
    obtain ⟨⟨h0, h1⟩, _⟩ := hxy
    rw [e0, e1, ← h1, str_lit h0.symm]
    rfl
theorem opD_eq : (Rows.laid_isthmus_syntax_operators : DataW Unit) = .agg (opsL.map opD) := by rfl
theorem clD_eq : (Rows.laid_isthmus_syntax_calls : DataW Unit) = .agg (callsL.map clD) := by rfl
theorem qnD_eq : (Rows.laid_isthmus_syntax_quantifiers : DataW Unit) = .agg (quantsL.map qnD) := by rfl
theorem opC_eq : opA.toList = opsL.flatMap opC := by rfl
theorem clC_eq : clA.toList = callsL.flatMap clC := by rfl
theorem qnC_eq : qnA.toList = quantsL.flatMap qnC := by rfl
theorem gOp : Tryz.prog.globalNamed "isthmus/syntax.operators" = some 3 := by kernel_rfl
theorem gOpType : (Tryz.prog.globals[3]?).map (·.type) = some 147 := by kernel_rfl
theorem cellsOps : Tryz.prog.cellsOf 147 = 55 := by kernel_rfl
theorem gCl : Tryz.prog.globalNamed "isthmus/syntax.calls" = some 0 := by kernel_rfl
theorem gClType : (Tryz.prog.globals[0]?).map (·.type) = some 135 := by kernel_rfl
theorem cellsCls : Tryz.prog.cellsOf 135 = 30 := by kernel_rfl
theorem gQn : Tryz.prog.globalNamed "isthmus/syntax.quantifiers" = some 2 := by kernel_rfl
theorem gQnType : (Tryz.prog.globals[2]?).map (·.type) = some 146 := by kernel_rfl
theorem cellsQns : Tryz.prog.cellsOf 146 = 12 := by kernel_rfl
/-- What a variable that is laid holds. -/
theorem laid_cells {W : World} {nm : String} {d : DataW Unit} {r : List (String × DataW Unit)} {g : Nat} {t : TypeId} {A : Array Value} (hg : Tryz.prog.globalNamed nm = some g) (ht : (Tryz.prog.globals[g]?).map (·.type) = some t)
    (hA : ∀ fuel cs p, DataW.trod (fun _ => ()) Tryz.prog W 0 (fun _ => true) false fuel t cs = some (d, p) → cs = A.toList) (h : laidMet Tryz.prog ((nm, d) :: r) W) : ∃ t fr, W.heap[g]? = some (.cells A t fr) := by
  obtain ⟨ps, ⟨g', t', cs, fuel, p, q, hg', ht', hvar, hd, _, _⟩, _⟩ := h
  obtain rfl := Option.some.inj (hg.symm.trans hg')
  obtain rfl := Option.some.inj (ht.symm.trans ht')
  have hcs := hA _ _ _ hd
  have hcs' : cs = A := Array.toList_inj.1 hcs
  subst hcs'
  simp only [World.var?, hg, Option.bind_some] at hvar
  split at hvar
  · rename_i c t fr hh
    cases hvar
    exact ⟨t, fr, hh⟩
  · cases hvar
theorem p10D_eq : (Rows.laid_internal_strconv_uint64pow10 : DataW Unit) = Go.Lib.tabData .u64 Go.Lib.pow10Tab := by kernel_rfl
theorem gP10 : Tryz.prog.globalNamed "internal/strconv.uint64pow10" = some 6 := by kernel_rfl
theorem gP10Type : (Tryz.prog.globals[6]?).map (·.type) = some 175 := by kernel_rfl
theorem cellsP10 : Tryz.prog.cellsOf 175 = 20 := by kernel_rfl
theorem cellsU64 : Tryz.prog.cellsOf 156 = 1 := by kernel_rfl
/-- A world for the witness: the settled one, the variables holding what their initialisers lay. -/
def laidWorld12 (P : Program) (os : Os) : World :=
  let w0 := laidWorld P os
  { w0 with heap := ((w0.heap.modify 3 (layCells opA)).modify 0 (layCells clA)).modify 2 (layCells qnA) }
end Go.Proofs.YtojleoionpnjpaaGreatDoor
namespace Go.Proofs.YtojleoionpnjpaaGreatDoor
open Go.ChangeShapes Go.WideShapes Go.ChangeAt Go.RowKit
set_option linter.unusedVariables false

theorem fix_of_laid13 {W : World} (h : laidMet Tryz.prog [("math/bits.deBruijn32tab", Rows.laid_math_bits_deBruijn32tab), ("math/bits.deBruijn64tab", Rows.laid_math_bits_deBruijn64tab), ("internal/strconv.uint64pow10", Rows.laid_internal_strconv_uint64pow10), ("isthmus/lex.words", Rows.laid_isthmus_lex_words), ("isthmus/syntax.operators", Rows.laid_isthmus_syntax_operators), ("isthmus/syntax.calls", Rows.laid_isthmus_syntax_calls), ("isthmus/syntax.quantifiers", Rows.laid_isthmus_syntax_quantifiers)] W) : FixT W := by
  have h2 := h.tail.tail
  have h5 := h2.tail
  have h6 := h5.tail
  rw [p10D_eq] at h2
  refine ⟨⟨wd_of_laid h5, ?_, ?_, ?_⟩, Go.Lib.tabIs_of_head gP10 gP10Type Tryz.underlying175 Tryz.underlying156 cellsU64 cellsP10 h2⟩
  · rw [opD_eq] at h6
    exact laid_cells gOp gOpType (fun fuel cs p hd => by rw [opC_eq]; exact tab_flat opsL opD opC Tryz.underlying147 cellsOps rfl cellsOp op_elem hd) h6
  · have h7 := h6.tail
    rw [clD_eq] at h7
    exact laid_cells gCl gClType (fun fuel cs p hd => by rw [clC_eq]; exact tab_flat callsL clD clC Tryz.underlying135 cellsCls rfl cellsCl cl_elem hd) h7
  · have h8 := h6.tail.tail
    rw [qnD_eq] at h8
    exact laid_cells gQn gQnType (fun fuel cs p hd => by rw [qnC_eq]; exact tab_flat quantsL qnD qnC Tryz.underlying146 cellsQns rfl cellsQn qn_elem hd) h8
end Go.Proofs.YtojleoionpnjpaaGreatDoor
namespace Go.Proofs.YtojleoionpnjpaaGreatDoor
open Go.ChangeShapes Go.WideShapes Go.ChangeAt Go.RowKit
set_option linter.unusedVariables false

/-- Numbers, names and lists as they can be read. -/
def rawP (n : Int) (nm : List UInt8) (a : Int) (len : Nat) : Prop := -9223372036854775808 ≤ n ∧ n ≤ 9223372036854775807 ∧ nm.length ≤ maxLen ∧ -9223372036854775808 ≤ a ∧ a ≤ 9223372036854775807 ∧ len ≤ maxLen
def Fs.raw : Fs → Prop
  | ⟨none⟩ => True
  | ⟨some ⟨_, n, nm, a, ks, r⟩⟩ => rawP n nm a ks.len ∧ ks.raw ∧ r.raw
def Ex.raw (e : Ex) : Prop := rawP e.n e.nm e.a e.kids.len ∧ e.kids.raw
theorem Fs.raw_wide : ∀ {f : Fs}, f.raw → f.wide
  | ⟨none⟩, h => trivial
  | ⟨some ⟨k, n, nm, a, ks, r⟩⟩, h => ⟨h.1.2.2.2.2.2, Fs.raw_wide (f := ks) h.2.1, Fs.raw_wide (f := r) h.2.2⟩
theorem Fs.len_size' : ∀ (x : Fs), x.len ≤ x.size
  | ⟨none⟩ => Nat.le_refl _
  | ⟨some ⟨k, n, nm, a, ks, r⟩⟩ => by have := Fs.len_size' r; show r.len + 1 ≤ ks.size + r.size + 1; omega
theorem Fs.raw_fit : ∀ {f : Fs}, f.raw → f.size ≤ 100000000 → f.short ∧ f.rng
  | ⟨none⟩, h, hs => ⟨trivial, trivial⟩
  | ⟨some ⟨k, n, nm, a, ks, r⟩⟩, h, hs => by
    have hs : ks.size + r.size + 1 ≤ 100000000 := hs
    have h1 := Fs.raw_fit (f := ks) h.2.1 (by omega)
    have h2 := Fs.raw_fit (f := r) h.2.2 (by omega)
    have := Fs.len_size' ks
    exact ⟨⟨h.1.2.2.1, by omega, h1.1, h2.1⟩, ⟨h.1.1, h.1.2.1, h1.2, h2.2⟩⟩
theorem Ex.raw_fit {e : Ex} (h : e.raw) (hs : e.kids.size ≤ 100000000) : e.fit := by
  obtain ⟨h1, h2⟩ := Fs.raw_fit h.2 hs
  have := Fs.len_size' e.kids
  exact ⟨h.1.2.2.1, h1, by omega, h.1.1, h.1.2.1, h2⟩
theorem cellsEx : Tryz.prog.cellsOf 25 = 5 := by kernel_rfl
theorem cellsSl : Tryz.prog.cellsOf 23 = 1 := by kernel_rfl
theorem add_plain' (b off j : Nat) : (⟨b, off, none⟩ : Addr).add j = ⟨b, off + j, none⟩ := by
  unfold Addr.add
  split
  · subst j; simp_all
  · rfl
set_option maxRecDepth 100000 in
theorem open_tree {H : Type} {enc : TypeId × Value → H} {W : World} {sp : Nat → Bool} {held : Bool} : ∀ (fuel : Nat) (cs : List Value) (x : DataW H × List MemPlace), DataW.trod enc Tryz.prog W 0 sp held fuel 25 cs = some x → (∀ q ∈ x.2, q.block < W.heap.size) →
    ∃ (e : Ex) (ao : Option Addr) (cap : Nat), cs = [.int .i64 e.k, .int .i64 e.n, stv e.nm, .slice ao e.kids.len cap, .int .i64 e.a] ∧ SlA W e.kids ao ∧ e.raw := by
  intro fuel
  induction fuel using Nat.strongRecOn with
  | _ fuel IH =>
  intro cs x h hlt
  obtain ⟨xs, k, hk, hxy, hl, hxl, hff⟩ := DataW.trod_struct Tryz.underlying25 h
  rw [cellsEx] at hl
  match xs, hxl, cs, hl with
  | [y0, y1, y2, y3, y4], _, [u0, u1, u2, u3, u4], _ =>
    have g0 := hff 0 _ rfl
    have g1 := hff 1 _ rfl
    have g2 := hff 2 _ rfl
    have g3 := hff 3 _ rfl
    have g4 := hff 4 _ rfl
    simp [cellsInt, cellsStr, cellsSl] at g0 g1 g2 g3 g4
    obtain ⟨z0, e0, x0, w0⟩ := DataW.trod_int Tryz.underlying3 g0
    obtain ⟨z1, e1, x1, w1⟩ := DataW.trod_int Tryz.underlying3 g1
    obtain ⟨z2, e2, x2, w2⟩ := DataW.trod_string Tryz.underlying9 g2
    obtain ⟨z4, e4, x4, w4⟩ := DataW.trod_int Tryz.underlying3 g4
    simp at e0 e1 e2 e4
    have b1 := bd_i64 w1
    have b4 := bd_i64 w4
    have hz2 : (z2.data.toList).length ≤ maxLen := by rw [data_len]; exact w2
    have hlt3 : ∀ q ∈ y3.2, q.block < W.heap.size := fun q hq => hlt q (by rw [hxy]; simp [hq])
    rcases DataW.trod_slice Tryz.underlying23 g3 with ⟨hs, _⟩ | ⟨a, len, cap, elems, rest, n, hn, hs, hx3, _, hlc, hcm, hel, hE, _, _⟩
    · simp at hs
      refine ⟨⟨z0, z1, z2.data.toList, z4, .nil⟩, none, 0, ?_, .inl rfl, ⟨b1.1, b1.2, hz2, b4.1, b4.2, by show 0 ≤ _; omega⟩, trivial⟩
      rw [e0, e1, e2, e4, hs, str_lit rfl]
      rfl
    · simp at hs
      obtain ⟨b, off, spot⟩ := a
      have each : ∀ i, i < len → ∃ (e : Ex) (ak : Option Addr) (ck : Nat), spot = none ∧ b < W.heap.size ∧ (∀ j u, ([.int .i64 e.k, .int .i64 e.n, stv e.nm, .slice ak e.kids.len ck, .int .i64 e.a] : List Value)[j]? = some u → W.cell? ⟨b, off + i * 5 + j, none⟩ = some u) ∧ SlA W e.kids ak ∧ e.raw := by
        intro i hi
        have hEi := hE i hi
        rw [List.getElem?_eq_getElem (by omega), cellsEx] at hEi
        obtain ⟨cs', h1, h2⟩ := Option.bind_eq_some_iff.1 hEi
        obtain ⟨_, hlen, hcell⟩ := World.cells?_some h1
        have hsub : ∀ q ∈ (elems[i]'(by omega)).2, q.block < W.heap.size := fun q hq => hlt3 q (by
          rw [hx3]
          simp only [List.mem_append, List.mem_flatMap]
          exact .inr ⟨_, .inl (List.getElem_mem _), hq⟩)
        obtain ⟨e, ak, ck, hcs, SK, hr⟩ := IH n (by omega) cs' _ h2 hsub
        have hspot : spot = none := by
          have hE0 := hE 0 (by omega)
          rw [List.getElem?_eq_getElem (by omega), cellsEx] at hE0
          obtain ⟨cs0, k1, k2⟩ := Option.bind_eq_some_iff.1 hE0
          obtain ⟨_, klen, kcell⟩ := World.cells?_some k1
          have k3 := kcell 0 (by omega)
          rw [List.getElem?_eq_getElem (by omega)] at k3
          simpa [Addr.add] using World.cell?_spot k3
        subst hspot
        have hbl : b < W.heap.size := hlt3 (.cell b off) (by
          rw [hx3]
          exact List.mem_append_left _ (MemPlace.mem_row.2 ⟨0, by rw [cellsEx]; omega, by simp⟩))
        refine ⟨e, ak, ck, rfl, hbl, fun j u hu => ?_, SK, hr⟩
        rw [← hcs] at hu
        have hj : j < 5 := by
          by_cases hj : j < 5
          · exact hj
          · rw [List.getElem?_eq_none (by omega)] at hu
            cases hu
        have := hcell j hj
        rw [add_plain', add_plain', hu] at this
        exact this
      have build : ∀ m, m ≤ len → ∃ f : Fs, f.len = m ∧ f.raw ∧ (m = 0 ∨ spot = none ∧ b < W.heap.size) ∧ ∃ zs, (∀ j u, zs[j]? = some u → W.cell? ⟨b, off + (len - m) * 5 + j, none⟩ = some u) ∧ Fc W (fun _ => True) f zs := by
        intro m
        induction m with
        | zero => intro _; exact ⟨.nil, rfl, trivial, .inl rfl, [], fun j u hu => by simp at hu, rfl⟩
        | succ m ih =>
          intro hm
          obtain ⟨f, f1, f2, _, zs, f3, f4⟩ := ih (by omega)
          obtain ⟨e, ak, ck, s1, s2, s3, s4, s5⟩ := each (len - (m + 1)) (by omega)
          refine ⟨.cons e.k e.n e.nm e.a e.kids f, by show f.len + 1 = _; rw [f1], ⟨s5.1, s5.2, f2⟩, .inr ⟨s1, s2⟩, .int .i64 e.k :: .int .i64 e.n :: stv e.nm :: .slice ak e.kids.len ck :: .int .i64 e.a :: zs, fun j u hu => ?_, ak, ck, zs, rfl, s4, f4⟩
          by_cases hj : j < 5
          · refine s3 j u ?_
            rw [← hu]
            match j, hj with
            | 0, _ => rfl
            | 1, _ => rfl
            | 2, _ => rfl
            | 3, _ => rfl
            | 4, _ => rfl
          · obtain ⟨i, rfl⟩ : ∃ i, j = i + 5 := ⟨j - 5, by omega⟩
            have := f3 i u (by simpa using hu)
            rw [show off + (len - (m + 1)) * 5 + (i + 5) = off + (len - m) * 5 + i by
              have : len - m = len - (m + 1) + 1 := by omega
              rw [this]
              omega]
            exact this
      obtain ⟨f, f1, f2, f5, zs, f3, f4⟩ := build len (Nat.le_refl _)
      have hcm' : len ≤ maxLen := Nat.le_trans hlc hcm
      refine ⟨⟨z0, z1, z2.data.toList, z4, f⟩, some ⟨b, off, spot⟩, cap, ?_, ?_, ⟨b1.1, b1.2, hz2, b4.1, b4.2, by show f.len ≤ _; rw [f1]; exact hcm'⟩, f2⟩
      · show _ = [Value.int .i64 z0, .int .i64 z1, stv z2.data.toList, .slice (some ⟨b, off, spot⟩) f.len cap, .int .i64 z4]
        rw [e0, e1, e2, e4, hs, str_lit rfl, f1]
      · rcases f5 with h0 | ⟨rfl, hb⟩
        · refine .inl ?_
          rw [h0] at f1
          cases f using Fs.on with
          | nil => rfl
          | cons k n nm a ks r => cases f1
        · refine .inr ⟨b, off, zs, rfl, trivial, hb, fun j u hu => ?_, f4⟩
          have := f3 j u hu
          rw [Nat.sub_self, Nat.zero_mul, Nat.add_zero] at this
          exact this
/-- A tree that came in. -/
theorem open_ex {H : Type} {enc : TypeId × Value → H} {W : World} {sp : Nat → Bool} {held : Bool} {v : Value} {d : DataW H} {ps : List MemPlace} (h : DataW.Trod enc Tryz.prog W 0 sp held 25 v d ps) (hlt : ∀ q ∈ ps, q.block < W.heap.size) :
    ∃ (e : Ex) (ao : Option Addr) (cap : Nat), v = exV e ao cap ∧ SlA W e.kids ao ∧ e.raw := by
  obtain ⟨fuel, hf⟩ := h
  obtain ⟨e, ao, cap, hcs, S, R⟩ := open_tree fuel _ _ hf hlt
  refine ⟨e, ao, cap, ?_, S, R⟩
  have hcs' : v.cells = #[.int .i64 e.k, .int .i64 e.n, stv e.nm, .slice ao e.kids.len cap, .int .i64 e.a] := by
    apply Array.toList_inj.1
    exact hcs
  cases v with
  | agg cs => rw [show (Value.agg cs).cells = cs from rfl] at hcs'; rw [hcs']; rfl
  | _ => have h5 := congrArg Array.size hcs'; simp [Value.cells] at h5
end Go.Proofs.YtojleoionpnjpaaGreatDoor
