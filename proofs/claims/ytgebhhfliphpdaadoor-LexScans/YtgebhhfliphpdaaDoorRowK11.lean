/- From the walk of a law of package lex to its row: the tables and errors as the program lays them. -/
import Derived.Test.YtgebhhfliphpdaaDoorRows
import Derived.Test.YtgebhhfliphpdaaDoorLexX
import Derived.SizedLaws
import Derived.Lib.LaidTab
import Derived.Stop.LaidErr
import Derived.ShutString
import Derived.Deep.DeepHandedRow
namespace Go.Proofs.YtgebhhfliphpdaaDoor
open Go.ChangeShapes Go.WideShapes Go.ChangeAt Go.RowKit
set_option linter.unusedVariables false

theorem ownK : ownKnob Tryd.prog.godebug = none := by kernel_rfl
theorem laidOut : laidOutB Tryd.prog = true := by kernel_rfl
theorem cellsInt : Tryd.prog.cellsOf 3 = 1 := by kernel_rfl
theorem bytesInt : Tryd.prog.bytesOf 3 = 8 := by kernel_rfl
theorem bd_i64 {a : Int} (h : (Lit.int .i64 a).wf = true) : -9223372036854775808 ≤ a ∧ a ≤ 9223372036854775807 := by
  simpa [Lit.wf, IntKind.min, IntKind.max, IntKind.signed, IntKind.bits] using h
theorem gWd : Tryd.prog.globalNamed "isthmus/lex.words" = some 0 := by kernel_rfl
theorem gWdType : (Tryd.prog.globals[0]?).map (·.type) = some 52 := by kernel_rfl
theorem cellsWd : Tryd.prog.cellsOf 52 = 27 := by kernel_rfl
theorem cellsStr : Tryd.prog.cellsOf 9 = 1 := by kernel_rfl
theorem gSynType : (Tryd.prog.globals[1]?).map (·.type) = some 54 := by kernel_rfl
theorem gRanType : (Tryd.prog.globals[2]?).map (·.type) = some 54 := by kernel_rfl
theorem cellsEs : Tryd.prog.cellsOf 77 = 1 := by kernel_rfl
theorem starEs : "*" ++ "errors.errorString" = "*errors.errorString" := by decide
/-- The one type of that name. -/
theorem rowEs (u : TypeId) (h : Tryd.prog.typeName? 3 u = some "*errors.errorString") : u = 75 :=
  typeName_ptr_named (nm := "errors.errorString") (by rw [starEs]; kernel_rfl) (by kernel_rfl) (by decide) u (by rw [starEs]; exact h)
/-- The words as the row lists them. -/
def wordsD : List (DataW Unit) := (List.range 27).map fun j => .lit (.string (wd j).data.toList)
theorem wordsD_eq : (Rows.laid_isthmus_lex_words : DataW Unit) = .agg wordsD := by rfl
theorem wordsA_list : wordsA.toList = (List.range 27).map fun j => Value.string (wd j) := by rfl
theorem words_of_cells {W : World} {fuel : Nat} {cs : List Value} {p : List MemPlace} (h : DataW.trod (fun _ => ()) Tryd.prog W 0 (fun _ => true) false fuel 52 cs = some (.agg wordsD, p)) : cs = wordsA.toList := by
  obtain ⟨xs, m, _, hx, hl, hlen, hf⟩ := DataW.trod_array Tryd.underlying52 h
  rw [cellsWd] at hl
  simp only [cellsStr, Nat.mul_one] at hf
  simp only [Prod.mk.injEq, DataW.agg.injEq] at hx
  rw [wordsA_list]
  apply List.ext_getElem?
  intro i
  by_cases hi : i < 27
  · have hfi := hf i hi
    have hxi : xs[i]? = some xs[i] := List.getElem?_eq_getElem (by omega)
    rw [hxi] at hfi
    obtain ⟨s, h1, h2⟩ := DataW.trod_string Tryd.underlying9 hfi
    have hc : cs[i]? = some (.string s) := by
      have := congrArg (·[0]?) h1
      simpa [List.getElem?_take, List.getElem?_drop] using this
    have hd : (xs.map (·.1))[i]? = some (.lit (.string s.data.toList)) := by rw [List.getElem?_map, hxi, h2.1]; rfl
    rw [← hx.1] at hd
    unfold wordsD at hd
    rw [List.getElem?_map, List.getElem?_range hi] at hd
    simp only [Option.map_some, Option.some.injEq, DataW.lit.injEq, Lit.string.injEq] at hd
    have hs := bytes_eq.1 hd
    rw [hc, List.getElem?_map, List.getElem?_range hi, ← hs]
    rfl
  · rw [List.getElem?_eq_none (by omega), List.getElem?_eq_none (by simp; omega)]
theorem wd_of_laid {W : World} {r : List (String × DataW Unit)} (h : laidMet Tryd.prog (("isthmus/lex.words", Rows.laid_isthmus_lex_words) :: r) W) : Wd W := by
  rw [wordsD_eq] at h
  obtain ⟨ps, ⟨g', t', cs, fuel, p, q, hg', ht', hvar, hd, _, _⟩, _⟩ := h
  obtain rfl := Option.some.inj (gWd.symm.trans hg')
  obtain rfl := Option.some.inj (gWdType.symm.trans ht')
  have hcs := words_of_cells hd
  have hcs' : cs = wordsA := Array.toList_inj.1 hcs
  subst hcs'
  simp only [World.var?, gWd, Option.bind_some] at hvar
  split at hvar
  · rename_i c t fr hh
    cases hvar
    exact ⟨t, fr, hh⟩
  · cases hvar
theorem tabs_of_laid {W : World} (h : laidMet Tryd.prog [("math/bits.deBruijn32tab", Rows.laid_math_bits_deBruijn32tab), ("math/bits.deBruijn64tab", Rows.laid_math_bits_deBruijn64tab), ("internal/strconv.uint64pow10", Rows.laid_internal_strconv_uint64pow10), ("strconv.ErrRange", Rows.laid_strconv_ErrRange), ("strconv.ErrSyntax", Rows.laid_strconv_ErrSyntax), ("isthmus/lex.words", Rows.laid_isthmus_lex_words)] W) : Wd W ∧ Ers W := by
  have h3 := h.tail.tail.tail
  obtain ⟨a1, s1, hv1, _⟩ := laid_sentinel h3 gRan gRanType Tryd.underlying54 rowEs Tryd.underlying75 Tryd.underlying77 rfl rfl Tryd.underlying9 cellsEs cellsStr
  obtain ⟨a0, s0, hv0, _⟩ := laid_sentinel h3.tail gSyn gSynType Tryd.underlying54 rowEs Tryd.underlying75 Tryd.underlying77 rfl rfl Tryd.underlying9 cellsEs cellsStr
  exact ⟨wd_of_laid h3.tail.tail, ⟨_, _, hv0⟩, ⟨_, _, hv1⟩⟩
/-- What a variable's block is laid with. -/
def layCells (cs : Array Value) : Obj → Obj
  | .cells _ t frozen => .cells cs t frozen
  | o => o
def litCells : DataW Unit → List Value
  | .agg l => l.map fun d => match d with | .lit (.int k z) => Value.int k z | _ => .nilIface
  | _ => []
abbrev synS : ByteArray := ⟨#[105, 110, 118, 97, 108, 105, 100, 32, 115, 121, 110, 116, 97, 120]⟩
abbrev rngS : ByteArray := ⟨#[118, 97, 108, 117, 101, 32, 111, 117, 116, 32, 111, 102, 32, 114, 97, 110, 103, 101]⟩
def lowB (P : Program) : Nat := (World.holding P default ⟨#[], #[], []⟩).heap.size
/-- A world for the witness: the settled one, the variables holding what their initialisers lay. -/
def laidWorld (P : Program) (os : Os) : World :=
  let w0 := World.holding P os ⟨#[.cells #[.string synS] 77, .cells #[.string rngS] 77], #[], []⟩
  { w0 with heap := (((((w0.heap.modify 4 (layCells (litCells Rows.laid_math_bits_deBruijn32tab).toArray)).modify 5 (layCells (litCells Rows.laid_math_bits_deBruijn64tab).toArray)).modify 3 (layCells (litCells Rows.laid_internal_strconv_uint64pow10).toArray)).modify 0 (layCells wordsA)).modify 1 (layCells #[.iface 75 (.pointer (some ⟨lowB P, 0, none⟩))])).modify 2 (layCells #[.iface 75 (.pointer (some ⟨lowB P + 1, 0, none⟩))]) }
end Go.Proofs.YtgebhhfliphpdaaDoor
