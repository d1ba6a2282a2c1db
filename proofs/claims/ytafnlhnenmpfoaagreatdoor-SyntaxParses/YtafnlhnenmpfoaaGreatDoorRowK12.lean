/- From the walk of a law of package syntax to its row: the tables and errors as the program lays them. -/
import Derived.Test.YtafnlhnenmpfoaaGreatDoorRowK11
namespace Go.Proofs.YtafnlhnenmpfoaaGreatDoor
open Go.ChangeShapes Go.WideShapes Go.ChangeAt Go.RowKit
set_option linter.unusedVariables false

/-- Cells cut into pieces of k. -/
theorem cut_flat {α : Type} (k : Nat) (C : α → List Value) : ∀ (L : List α) (cs : List Value), cs.length = L.length * k → (∀ i (h : i < L.length), (cs.drop (i * k)).take k = C L[i]) → cs = L.flatMap C
  | [], cs, hl, h => by
    have : cs.length = 0 := by simpa using hl
    rw [List.length_eq_zero_iff.1 this]
    rfl
  | z :: L, cs, hl, h => by
    have h0 := h 0 (by simp)
    simp only [Nat.zero_mul, List.drop_zero, List.getElem_cons_zero] at h0
    have ih := cut_flat k C L (cs.drop k) (by simp [hl, Nat.add_mul]) (fun i hi => by
      have := h (i + 1) (by simp; omega)
      rw [List.getElem_cons_succ] at this
      rw [← this, List.drop_drop]
      congr 2
      rw [Nat.add_mul]
      omega)
    rw [List.flatMap_cons, ← ih, ← h0, List.take_append_drop]
/-- An array whose elements are told by what they read as. -/
theorem tab_flat {α : Type} {W : World} {fuel : Nat} {t e : TypeId} {n k : Nat} {cs : List Value} {p : List MemPlace} (L : List α) (D : α → DataW Unit) (C : α → List Value) (ht : Tryz.prog.underlying t = some (.array n e)) (hct : Tryz.prog.cellsOf t = L.length * k) (hn : n = L.length) (hce : Tryz.prog.cellsOf e = k)
    (hE : ∀ z m l q, DataW.trod (fun _ => ()) Tryz.prog W 0 (fun _ => true) false m e l = some (D z, q) → l = C z)
    (h : DataW.trod (fun _ => ()) Tryz.prog W 0 (fun _ => true) false fuel t cs = some (.agg (L.map D), p)) : cs = L.flatMap C := by
  obtain ⟨xs, m, _, hx, hl, hlen, hf⟩ := DataW.trod_array ht h
  rw [hct] at hl
  rw [hce] at hf
  simp only [Prod.mk.injEq, DataW.agg.injEq] at hx
  refine cut_flat k C L cs hl fun i hi => ?_
  have hfi := hf i (by omega)
  have hxi : xs[i]? = some xs[i] := List.getElem?_eq_getElem (by omega)
  rw [hxi] at hfi
  have hd : (xs.map (·.1))[i]? = some (D L[i]) := by rw [← hx.1, List.getElem?_map, List.getElem?_eq_getElem hi]; rfl
  rw [List.getElem?_map, hxi] at hd
  simp only [Option.map_some, Option.some.injEq] at hd
  exact hE L[i] m _ xs[i].2 (by rw [← hd]; exact hfi)
theorem str_lit {s : ByteArray} {a : List UInt8} (h : s.data.toList = a) : Value.string s = stv a := by
  subst h
  rfl
def opD (z : List UInt8 × Nat × Nat × Nat × Nat) : DataW Unit := .agg [.lit (.string z.1), .lit (.int .i64 (z.2.1 : Nat)), .lit (.int .i64 (z.2.2.1 : Nat)), .lit (.int .i64 (z.2.2.2.1 : Nat)), .lit (.int .i64 (z.2.2.2.2 : Nat))]
def opC (z : List UInt8 × Nat × Nat × Nat × Nat) : List Value := [stv z.1, .int .i64 (z.2.1 : Nat), .int .i64 (z.2.2.1 : Nat), .int .i64 (z.2.2.2.1 : Nat), .int .i64 (z.2.2.2.2 : Nat)]
def clD (z : List UInt8 × Nat × Nat) : DataW Unit := .agg [.lit (.string z.1), .lit (.int .i64 (z.2.1 : Nat)), .lit (.int .i64 (z.2.2 : Nat))]
def clC (z : List UInt8 × Nat × Nat) : List Value := [stv z.1, .int .i64 (z.2.1 : Nat), .int .i64 (z.2.2 : Nat)]
def qnD (z : List UInt8 × Nat) : DataW Unit := .agg [.lit (.string z.1), .lit (.int .i64 (z.2 : Nat))]
def qnC (z : List UInt8 × Nat) : List Value := [stv z.1, .int .i64 (z.2 : Nat)]
theorem cellsOp : Tryz.prog.cellsOf 137 = 5 := by kernel_rfl
theorem cellsCl : Tryz.prog.cellsOf 121 = 3 := by kernel_rfl
theorem cellsQn : Tryz.prog.cellsOf 133 = 2 := by kernel_rfl
set_option maxRecDepth 100000 in
theorem op_elem {W : World} (z : List UInt8 × Nat × Nat × Nat × Nat) (m : Nat) (l : List Value) (q : List MemPlace) (h : DataW.trod (fun _ => ()) Tryz.prog W 0 (fun _ => true) false m 137 l = some (opD z, q)) : l = opC z := by
  obtain ⟨xs, k, hk, hxy, hl, hxl, hff⟩ := DataW.trod_struct Tryz.underlying137 h
  rw [cellsOp] at hl
  match xs, hxl, l, hl with
  | [y0, y1, y2, y3, y4], _, [u0, u1, u2, u3, u4], _ =>
    have g0 := hff 0 _ rfl
    have g1 := hff 1 _ rfl
    have g2 := hff 2 _ rfl
    have g3 := hff 3 _ rfl
    have g4 := hff 4 _ rfl
    simp [cellsInt, cellsStr] at g0 g1 g2 g3 g4
    obtain ⟨z0, e0, x0, _⟩ := DataW.trod_string Tryz.underlying9 g0
    obtain ⟨z1, e1, x1, _⟩ := DataW.trod_int Tryz.underlying3 g1
    obtain ⟨z2, e2, x2, _⟩ := DataW.trod_int Tryz.underlying3 g2
    obtain ⟨z3, e3, x3, _⟩ := DataW.trod_int Tryz.underlying3 g3
    obtain ⟨z4, e4, x4, _⟩ := DataW.trod_int Tryz.underlying3 g4
    subst x0 x1 x2 x3 x4
    simp only [opD, List.map_cons, List.map_nil, Prod.mk.injEq, DataW.agg.injEq, List.cons.injEq, DataW.lit.injEq, Lit.string.injEq, Lit.int.injEq, true_and, and_true] at hxy
    simp at e0 e1 e2 e3 e4
    obtain ⟨⟨h0, h1, h2, h3, h4⟩, _⟩ := hxy
    rw [e0, e1, e2, e3, e4, ← h1, ← h2, ← h3, ← h4, str_lit h0.symm]
    rfl
set_option maxRecDepth 100000 in
theorem cl_elem {W : World} (z : List UInt8 × Nat × Nat) (m : Nat) (l : List Value) (q : List MemPlace) (h : DataW.trod (fun _ => ()) Tryz.prog W 0 (fun _ => true) false m 121 l = some (clD z, q)) : l = clC z := by
  obtain ⟨xs, k, hk, hxy, hl, hxl, hff⟩ := DataW.trod_struct Tryz.underlying121 h
  rw [cellsCl] at hl
  match xs, hxl, l, hl with
  | [y0, y1, y2], _, [u0, u1, u2], _ =>
    have g0 := hff 0 _ rfl
    have g1 := hff 1 _ rfl
    have g2 := hff 2 _ rfl
    simp [cellsInt, cellsStr] at g0 g1 g2
    obtain ⟨z0, e0, x0, _⟩ := DataW.trod_string Tryz.underlying9 g0
    obtain ⟨z1, e1, x1, _⟩ := DataW.trod_int Tryz.underlying3 g1
    obtain ⟨z2, e2, x2, _⟩ := DataW.trod_int Tryz.underlying3 g2
    subst x0 x1 x2
    simp only [clD, List.map_cons, List.map_nil, Prod.mk.injEq, DataW.agg.injEq, List.cons.injEq, DataW.lit.injEq, Lit.string.injEq, Lit.int.injEq, true_and, and_true] at hxy
    simp at e0 e1 e2
    obtain ⟨⟨h0, h1, h2⟩, _⟩ := hxy
    rw [e0, e1, e2, ← h1, ← h2, str_lit h0.symm]
    rfl
set_option maxRecDepth 100000 in
theorem qn_elem {W : World} (z : List UInt8 × Nat) (m : Nat) (l : List Value) (q : List MemPlace) (h : DataW.trod (fun _ => ()) Tryz.prog W 0 (fun _ => true) false m 133 l = some (qnD z, q)) : l = qnC z := by
  obtain ⟨xs, k, hk, hxy, hl, hxl, hff⟩ := DataW.trod_struct Tryz.underlying133 h
  rw [cellsQn] at hl
  match xs, hxl, l, hl with
  | [y0, y1], _, [u0, u1], _ =>
    have g0 := hff 0 _ rfl
    have g1 := hff 1 _ rfl
    simp [cellsInt, cellsStr] at g0 g1
    obtain ⟨z0, e0, x0, _⟩ := DataW.trod_string Tryz.underlying9 g0
    obtain ⟨z1, e1, x1, _⟩ := DataW.trod_int Tryz.underlying3 g1
    subst x0 x1
    simp only [qnD, List.map_cons, List.map_nil, Prod.mk.injEq, DataW.agg.injEq, List.cons.injEq, DataW.lit.injEq, Lit.string.injEq, Lit.int.injEq, true_and, and_true] at hxy
    simp at e0 e1
    obtain ⟨⟨h0, h1⟩, _⟩ := hxy
    rw [e0, e1, ← h1, str_lit h0.symm]
    rfl
theorem opD_eq : (Rows.laid_isthmus_syntax_operators : DataW Unit) = .agg (opsL.map opD) := by rfl
theorem clD_eq : (Rows.laid_isthmus_syntax_calls : DataW Unit) = .agg (callsL.map clD) := by rfl
theorem qnD_eq : (Rows.laid_isthmus_syntax_quantifiers : DataW Unit) = .agg (quantsL.map qnD) := by rfl
theorem opC_eq : opA.toList = opsL.flatMap opC := by rfl
theorem clC_eq : clA.toList = callsL.flatMap clC := by rfl
theorem qnC_eq : qnA.toList = quantsL.flatMap qnC := by rfl
theorem gOp : Tryz.prog.globalNamed "isthmus/syntax.operators" = some 3 := by kernel_rfl
theorem gOpType : (Tryz.prog.globals[3]?).map (·.type) = some 152 := by kernel_rfl
theorem cellsOps : Tryz.prog.cellsOf 152 = 55 := by kernel_rfl
theorem gCl : Tryz.prog.globalNamed "isthmus/syntax.calls" = some 0 := by kernel_rfl
theorem gClType : (Tryz.prog.globals[0]?).map (·.type) = some 140 := by kernel_rfl
theorem cellsCls : Tryz.prog.cellsOf 140 = 30 := by kernel_rfl
theorem gQn : Tryz.prog.globalNamed "isthmus/syntax.quantifiers" = some 2 := by kernel_rfl
theorem gQnType : (Tryz.prog.globals[2]?).map (·.type) = some 151 := by kernel_rfl
theorem cellsQns : Tryz.prog.cellsOf 151 = 12 := by kernel_rfl
/-- What a variable that is laid holds. -/
theorem laid_cells {W : World} {nm : String} {d : DataW Unit} {r : List (String × DataW Unit)} {g : Nat} {t : TypeId} {A : Array Value} (hg : Tryz.prog.globalNamed nm = some g) (ht : (Tryz.prog.globals[g]?).map (·.type) = some t)
    (hA : ∀ fuel cs p, DataW.trod (fun _ => ()) Tryz.prog W 0 (fun _ => true) false fuel t cs = some (d, p) → cs = A.toList) (h : laidMet Tryz.prog ((nm, d) :: r) W) : ∃ t fr, W.heap[g]? = some (.cells A t fr) := by
  obtain ⟨ps, ⟨g', t', cs, fuel, p, q, hg', ht', hvar, hd, _, _⟩, _⟩ := h
  obtain rfl := Option.some.inj (hg.symm.trans hg')
  obtain rfl := Option.some.inj (ht.symm.trans ht')
  have hcs := hA _ _ _ hd
  have hcs' : cs = A := Array.toList_inj.1 hcs
  subst hcs'
  simp only [World.var?, hg, Option.bind_some] at hvar
  split at hvar
  · rename_i c t fr hh
    cases hvar
    exact ⟨t, fr, hh⟩
  · cases hvar
theorem p10D_eq : (Rows.laid_internal_strconv_uint64pow10 : DataW Unit) = Go.Lib.tabData .u64 Go.Lib.pow10Tab := by kernel_rfl
theorem gP10 : Tryz.prog.globalNamed "internal/strconv.uint64pow10" = some 6 := by kernel_rfl
theorem gP10Type : (Tryz.prog.globals[6]?).map (·.type) = some 180 := by kernel_rfl
theorem cellsP10 : Tryz.prog.cellsOf 180 = 20 := by kernel_rfl
theorem cellsU64 : Tryz.prog.cellsOf 161 = 1 := by kernel_rfl
theorem fix_of_laid {W : World} (h : laidMet Tryz.prog [("math/bits.deBruijn32tab", Rows.laid_math_bits_deBruijn32tab), ("math/bits.deBruijn64tab", Rows.laid_math_bits_deBruijn64tab), ("internal/strconv.uint64pow10", Rows.laid_internal_strconv_uint64pow10), ("strconv.ErrRange", Rows.laid_strconv_ErrRange), ("strconv.ErrSyntax", Rows.laid_strconv_ErrSyntax), ("isthmus/lex.words", Rows.laid_isthmus_lex_words), ("isthmus/syntax.operators", Rows.laid_isthmus_syntax_operators), ("isthmus/syntax.calls", Rows.laid_isthmus_syntax_calls), ("isthmus/syntax.quantifiers", Rows.laid_isthmus_syntax_quantifiers)] W) : FixA W := by
  have h2 := h.tail.tail
  have h3 := h2.tail
  obtain ⟨a1, s1, hv1, _⟩ := laid_sentinel h3 gRan gRanType Tryz.underlying127 rowEs Tryz.underlying176 Tryz.underlying178 rfl rfl Tryz.underlying9 cellsEs cellsStr
  obtain ⟨a0, s0, hv0, _⟩ := laid_sentinel h3.tail gSyn gSynType Tryz.underlying127 rowEs Tryz.underlying176 Tryz.underlying178 rfl rfl Tryz.underlying9 cellsEs cellsStr
  have h5 := h3.tail.tail
  have h6 := h5.tail
  rw [p10D_eq] at h2
  refine ⟨⟨⟨wd_of_laid h5, ?_, ?_, ?_⟩, Go.Lib.tabIs_of_head gP10 gP10Type Tryz.underlying180 Tryz.underlying161 cellsU64 cellsP10 h2⟩, ⟨_, _, hv0⟩, ⟨_, _, hv1⟩⟩
  · rw [opD_eq] at h6
    exact laid_cells gOp gOpType (fun fuel cs p hd => by rw [opC_eq]; exact tab_flat opsL opD opC Tryz.underlying152 cellsOps rfl cellsOp op_elem hd) h6
  · have h7 := h6.tail
    rw [clD_eq] at h7
    exact laid_cells gCl gClType (fun fuel cs p hd => by rw [clC_eq]; exact tab_flat callsL clD clC Tryz.underlying140 cellsCls rfl cellsCl cl_elem hd) h7
  · have h8 := h6.tail.tail
    rw [qnD_eq] at h8
    exact laid_cells gQn gQnType (fun fuel cs p hd => by rw [qnC_eq]; exact tab_flat quantsL qnD qnC Tryz.underlying151 cellsQns rfl cellsQn qn_elem hd) h8
/-- A world for the witness: the settled one, the variables holding what their initialisers lay. -/
def laidWorld12 (P : Program) (os : Os) : World :=
  let w0 := laidWorld P os
  { w0 with heap := ((w0.heap.modify 3 (layCells opA)).modify 0 (layCells clA)).modify 2 (layCells qnA) }
end Go.Proofs.YtafnlhnenmpfoaaGreatDoor
