/- From the walk of a law of package vset to its row: the two tables as the program lays them, slices of numbers that came in. -/
import Derived.Test.YtmpkhbblakfglaaDoorRows
import Derived.Test.YtmpkhbblakfglaaDoorAwake9
import Derived.SizedLaws
import Derived.Lib.LaidTab
import Derived.Deep.DeepHandedRow
namespace Go.Proofs.YtmpkhbblakfglaaDoor
open Go.ChangeShapes Go.WideShapes Go.ChangeAt Go.RowKit
set_option linter.unusedVariables false

theorem ownK : ownKnob Tryd.prog.godebug = none := by kernel_rfl
theorem laidOut : laidOutB Tryd.prog = true := by kernel_rfl
theorem cellsInt : Tryd.prog.cellsOf 3 = 1 := by kernel_rfl
theorem bytesInt : Tryd.prog.bytesOf 3 = 8 := by kernel_rfl
theorem bd_i64 {a : Int} (h : (Lit.int .i64 a).wf = true) : -9223372036854775808 ≤ a ∧ a ≤ 9223372036854775807 := by
  simpa [Lit.wf, IntKind.min, IntKind.max, IntKind.signed, IntKind.bits] using h
/-- A slice of numbers that came in, opened: its cells, its reach is asked apart. -/
theorem open_arg {H : Type} {enc : TypeId × Value → H} {W : World} {v : Value} {d : DataW H} {ps : List MemPlace} {ao : Option Addr} {len cap : Nat} (hv : v = .slice ao len cap)
    (h : DataW.Trod enc Tryd.prog W 0 (fun _ => true) true 35 v d ps) (hlt : ∀ x ∈ ps, x.block < W.heap.size) :
    (∃ z, Ints W ao len z) ∧ ((d = .nil ∧ len = 0) ∨ ∃ es sp, d = .slice es sp ∧ es.length + sp.length = cap ∧ len ≤ cap) := by
  subst hv
  obtain ⟨fuel, hf⟩ := h
  rcases open_ints Tryd.underlying35 Tryd.underlying3 cellsInt hf with ⟨hcs, hx⟩ | ⟨a, len', cap', zs, hcs, _, hl, hm, hz, hx, hcell, hwz⟩
  · simp [Value.cells] at hcs
    obtain ⟨rfl, rfl, rfl⟩ := hcs
    simp only [Prod.mk.injEq] at hx
    exact ⟨⟨fun _ => 0, fun j hj => by omega⟩, .inl ⟨hx.1, rfl⟩⟩
  · simp [Value.cells] at hcs
    obtain ⟨rfl, rfl, rfl⟩ := hcs
    simp only [Prod.mk.injEq] at hx
    obtain ⟨rfl, rfl⟩ := hx
    simp only [if_true] at hz
    refine ⟨⟨fun j => zs.getD j 0, fun j hj => ?_⟩, .inr ⟨_, _, rfl, by simp [lits]; omega, hl⟩⟩
    obtain ⟨b, off, spot⟩ := a
    have hspot : spot = none := by simpa [Addr.add] using World.cell?_spot (hcell 0 (by omega))
    subst hspot
    have hbW : b < W.heap.size := hlt (.cell b off) (MemPlace.mem_row.2 ⟨0, by omega, by simp⟩)
    have hw := bd_i64 (hwz (zs.getD j 0) (by rw [List.getD_eq_getElem?_getD, List.getElem?_eq_getElem (by omega)]; exact List.getElem_mem _))
    exact ⟨b, off, rfl, hbW, by rw [← add_plain]; exact hcell j (by omega), hw.1, hw.2⟩

theorem gDe : Tryd.prog.globalNamed "math/bits.deBruijn64tab" = some 0 := by kernel_rfl
theorem gDeType : (Tryd.prog.globals[0]?).map (·.type) = some 86 := by kernel_rfl
theorem cellsDe : Tryd.prog.cellsOf 86 = 64 := by kernel_rfl
theorem cellsByte : Tryd.prog.cellsOf 5 = 1 := by kernel_rfl
theorem gWd : Tryd.prog.globalNamed "isthmus/vset.words" = some 1 := by kernel_rfl
theorem gWdType : (Tryd.prog.globals[1]?).map (·.type) = some 87 := by kernel_rfl
theorem cellsWd : Tryd.prog.cellsOf 87 = 27 := by kernel_rfl
theorem cellsStr : Tryd.prog.cellsOf 9 = 1 := by kernel_rfl
/-- The words as the row lists them. -/
def wordsD : List (DataW Unit) := (List.range 27).map fun j => .lit (.string (word9 j).data.toList)
theorem wordsD_eq : (Rows.laid_isthmus_vset_words : DataW Unit) = .agg wordsD := by rfl
def deZ : List Int := Lib.deBruijn64tab.map (fun (n : Nat) => (n : Int))
theorem deZ_eq : (Rows.laid_math_bits_deBruijn64tab : DataW Unit) = Lib.tabData .u8 deZ := by rfl
theorem wordsA_list : wordsA.toList = (List.range 27).map fun j => Value.string (word9 j) := by rfl

theorem words_of_cells {W : World} {fuel : Nat} {cs : List Value} {p : List MemPlace} (h : DataW.trod (fun _ => ()) Tryd.prog W 0 (fun _ => true) false fuel 87 cs = some (.agg wordsD, p)) : cs = wordsA.toList := by
  obtain ⟨xs, m, _, hx, hl, hlen, hf⟩ := DataW.trod_array Tryd.underlying87 h
  rw [cellsWd] at hl
  simp only [cellsStr, Nat.mul_one] at hf
  simp only [Prod.mk.injEq, DataW.agg.injEq] at hx
  rw [wordsA_list]
  apply List.ext_getElem?
  intro i
  by_cases hi : i < 27
  · have hfi := hf i hi
    have hxi : xs[i]? = some xs[i] := List.getElem?_eq_getElem (by omega)
    rw [hxi] at hfi
    obtain ⟨s, h1, h2⟩ := DataW.trod_string Tryd.underlying9 hfi
    have hc : cs[i]? = some (.string s) := by
      have := congrArg (·[0]?) h1
      simpa [List.getElem?_take, List.getElem?_drop] using this
    have hd : (xs.map (·.1))[i]? = some (.lit (.string s.data.toList)) := by rw [List.getElem?_map, hxi, h2.1]; rfl
    rw [← hx.1] at hd
    unfold wordsD at hd
    rw [List.getElem?_map, List.getElem?_range hi] at hd
    simp only [Option.map_some, Option.some.injEq, DataW.lit.injEq] at hd
    have hs := strKey_inj hd
    rw [hc, List.getElem?_map, List.getElem?_range hi, ← hs]
    rfl
  · rw [List.getElem?_eq_none (by omega), List.getElem?_eq_none (by simp; omega)]

theorem tabs_of_laid {W : World} (h : laidMet Tryd.prog [("math/bits.deBruijn64tab", Rows.laid_math_bits_deBruijn64tab), ("isthmus/vset.words", Rows.laid_isthmus_vset_words)] W) : Tz W ∧ Wd W := by
  rw [deZ_eq, wordsD_eq] at h
  have hT := Lib.tabIs_of_head gDe gDeType Tryd.underlying86 Tryd.underlying5 cellsByte cellsDe h
  refine ⟨⟨fun j hj => ?_, ?_⟩, ?_⟩
  · rw [hT.cell gDe j (by simpa [deZ] using hj)]
    simp [deZ, List.getD, List.getElem?_eq_getElem hj]
  · have c0 := hT.cell gDe 0 (by decide)
    by_cases hs : 0 < W.heap.size
    · exact hs
    · exfalso
      have : W.heap[0]? = none := Array.getElem?_eq_none (by omega)
      simp [World.cell?, this] at c0
  · obtain ⟨ps, ⟨g1, t1, cs1, f1, p1, q1, _, _, _, _, hrest, _⟩, _⟩ := h
    obtain ⟨g', t', cs, fuel, p, q, hg', ht', hvar, hd, _, _⟩ := hrest
    obtain rfl := Option.some.inj (gWd.symm.trans hg')
    obtain rfl := Option.some.inj (gWdType.symm.trans ht')
    have hcs := words_of_cells hd
    have hcs' : cs = wordsA := Array.toList_inj.1 hcs
    subst hcs'
    simp only [World.var?, gWd, Option.bind_some] at hvar
    split at hvar
    · rename_i c t fr hh
      cases hvar
      exact ⟨t, fr, hh⟩
    · cases hvar
/-- What a variable's block is laid with. -/
def layCells (cs : Array Value) : Obj → Obj
  | .cells _ t frozen => .cells cs t frozen
  | o => o
/-- A world for the witness: the settled one, the tables holding what their initialisers lay. -/
def laidWorld (P : Program) (os : Os) : World :=
  { World.holding P os ⟨#[], #[], []⟩ with heap := ((World.holding P os ⟨#[], #[], []⟩).heap.modify 0 (layCells (deZ.map fun z => Value.int .u8 z).toArray)).modify 1 (layCells wordsA) }
end Go.Proofs.YtmpkhbblakfglaaDoor
