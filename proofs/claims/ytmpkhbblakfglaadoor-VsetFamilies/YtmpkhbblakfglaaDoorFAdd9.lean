/- The document's own Add: what it leans on. -/
import Derived.Test.YtmpkhbblakfglaaDoorFRef9
import Derived.Test.YtmpkhbblakfglaaDoorCut9
import Derived.Test.YtmpkhbblakfglaaDoorSameC
namespace Go.Proofs.YtmpkhbblakfglaaDoor
open Go.ChangeShapes Go.WideShapes Go.ChangeAt Go.RowKit Go.Maps
set_option linter.unusedVariables false
set_option linter.unusedSimpArgs false

theorem build_one9 (w : World) : (Instr.buildSlice 29 1 #[(0, .agg (b64 0).toArray)]).run Tryd.prog w = .ok (.slice (some ⟨w.heap.size, 0, none⟩) 1 1) (w.alloc (.cells (b64 0).toArray 57)) := by kernel_rfl
theorem wpList_buildOne9 {ops : Array Oper} {rest : List Oper} {op : Oper} {a : Act} {w : World} {Q : Exit → Act → World → Prop} (hg : op.guard = none) (x : Operand) (ho : op.op = .buildSlice 29 1 #[(0, x)]) (hx : a.eval x = .agg (b64 0).toArray)
    (h : wpList Tryd.prog ops Q rest (a.put op.dst (.slice (some ⟨w.heap.size, 0, none⟩) 1 1)) (w.alloc (.cells (b64 0).toArray 57))) : wpList Tryd.prog ops Q (op :: rest) a w := by
  refine wpList_plain hg fun K hK => ?_
  unfold Oper.wp execOp
  simp only [ho, Sem.run_bind, List.map_toArray, List.map_cons, List.map_nil, hx, build_one9 w, Result.andThen_ok]
  exact hK _ _ h
theorem new_set_at (w : World) : ∀ j u, (b64 0)[j]? = some u → (w.alloc (.cells (b64 0).toArray 57)).cell? ((⟨w.heap.size, 0, none⟩ : Addr).add j) = some u := fun j u hu => by
  have hb : (w.alloc (.cells (b64 0).toArray 57)).heap[w.heap.size]? = some (.cells (b64 0).toArray 57 (0, 0)) := heap_alloc_new w _
  rw [Addr.add_mid]
  exact range_blk hb j u hu
/-- The other label of two. -/
def oth (L a : Nat) : Nat := if a = L + 1 then L + 3 else L + 1
def oth2 (L b : Nat) : Nat := if b = L + 2 then L + 4 else L + 2
theorem oth_spec {L a : Nat} (h : a = L + 1 ∨ a = L + 3) : (oth L a = L + 1 ∨ oth L a = L + 3) ∧ oth L a ≠ a := by unfold oth; split <;> omega
theorem oth2_spec {L b : Nat} (h : b = L + 2 ∨ b = L + 4) : (oth2 L b = L + 2 ∨ oth2 L b = L + 4) ∧ oth2 L b ≠ b := by unfold oth2; split <;> omega
/-- Some family of the document's, with these names and sets. -/
def RX (w : World) (o : Nat → Nat) (L p m : Nat) (NL : List ByteArray) (xs : List Nat) : Prop := ∃ a b ao ca so cs, RF w o L p a b ao ca so cs m NL xs
theorem RX.step {I : Nat → Prop} {w w' : World} {o o' : Nat → Nat} {L p m : Nat} {NL : List ByteArray} {xs : List Nat} (h : RX w o L p m NL xs) (s : Step I w o w' o') (hi : ∀ k, L ≤ k → k ≤ L + 4 → ¬ I k) : RX w' o' L p m NL xs := by
  obtain ⟨a, b, ao, ca, so, cs, h⟩ := h
  exact ⟨a, b, ao, ca, so, cs, h.step s hi⟩
def LL (L : Nat) : Nat → Prop := fun k => L ≤ k ∧ k ≤ L + 4
theorem Blk.set2a {w : World} {o : Nat → Nat} {i b : Nat} {a0 a1 : Value} {t : TypeId} (h : Blk w o i b (.cells #[a0, a1] t (0, 0))) (u : Value) : Blk (w.setCell ⟨b, 0, none⟩ u) o i b (.cells #[u, a1] t (0, 0)) := by
  refine ⟨?_, h.2⟩
  have := set_blk (cs := [a0, a1]) (n := 0) h.1 u
  exact this
theorem Blk.set2b {w : World} {o : Nat → Nat} {i b : Nat} {a0 a1 : Value} {t : TypeId} (h : Blk w o i b (.cells #[a0, a1] t (0, 0))) (u : Value) : Blk (w.setCell ⟨b, 1, none⟩ u) o i b (.cells #[a0, u] t (0, 0)) := by
  refine ⟨?_, h.2⟩
  have := set_blk (cs := [a0, a1]) (n := 1) h.1 u
  exact this
theorem infoStr9 : (Tryd.prog.info? 9).map (fun i => (i.zero, i.size, i.bytes)) = some (some (.string ByteArray.empty), 1, 16) := by kernel_rfl
theorem RF.stepA {w w' : World} {o o' : Nat → Nat} {L p a b : Nat} {ao : Option Addr} {ca : Nat} {so : Option Addr} {cs m : Nat} {NL : List ByteArray} {xs : List Nat} (h : RF w o L p a b ao ca so cs m NL xs) (s : Step (fun k => k = oth L a) w o w' o') : RF w' o' L p a b ao ca so cs m NL xs := by
  have h1 := oth_spec h.la
  have h2 := h.lb
  have h3 := h.la
  exact ⟨h.blk.step s (by omega), h.nr.step s (by omega), h.sr.step s (by omega), h.la, h.lb, h.ln, h.lx⟩
end Go.Proofs.YtmpkhbblakfglaaDoor
