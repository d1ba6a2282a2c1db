/- The tables of package syntax, and what is found in them by a text. -/
import Derived.Test.YtafnlhnenmpfoaaDoorSynT
import Derived.Deep.MidRow
import Derived.Deep.CutBlock
import Derived.Deep.DeepCutAuto
import Derived.Laws.ResultCell
namespace Go.Proofs.YtafnlhnenmpfoaaDoor
open Go.ChangeShapes Go.WideShapes Go.ChangeAt Go.RowKit
set_option linter.unusedVariables false

theorem Blk.cells5 {w : World} {o : Nat → Nat} {i b : Nat} {a0 a1 a2 a3 a4 : Value} {t : TypeId} (h : Blk w o i b (.cells #[a0, a1, a2, a3, a4] t (0, 0))) :
    w.cell? ⟨b, 0, none⟩ = some a0 ∧ w.cell? ⟨b, 1, none⟩ = some a1 ∧ w.cell? ⟨b, 2, none⟩ = some a2 ∧ w.cell? ⟨b, 3, none⟩ = some a3 ∧ w.cell? ⟨b, 4, none⟩ = some a4 ∧ ∀ j, w.frozen? ⟨b, j, none⟩ = false := by
  refine ⟨?_, ?_, ?_, ?_, ?_, fun j => frozen_of_row w b j _ t h.1⟩ <;> simp [cell_of_row w b _ _ t (0, 0) h.1]
theorem Blk.cells2 {w : World} {o : Nat → Nat} {i b : Nat} {a0 a1 : Value} {t : TypeId} (h : Blk w o i b (.cells #[a0, a1] t (0, 0))) :
    w.cell? ⟨b, 0, none⟩ = some a0 ∧ w.cell? ⟨b, 1, none⟩ = some a1 ∧ ∀ j, w.frozen? ⟨b, j, none⟩ = false := by
  refine ⟨?_, ?_, fun j => frozen_of_row w b j _ t h.1⟩ <;> simp [cell_of_row w b _ _ t (0, 0) h.1]
theorem find_at {α : Type} {p : α → Bool} : ∀ {l : List α} {k : Nat} {x : α}, l[k]? = some x → p x = true → (∀ (j : Nat) (y : α), j < k → l[j]? = some y → p y = false) → l.find? p = some x
  | [], k, x, h, _, _ => by simp at h
  | a :: l, 0, x, h, hp, _ => by
    simp at h
    subst h
    simp [hp]
  | a :: l, k + 1, x, h, hp, hn => by
    have h0 := hn 0 a (by omega) rfl
    rw [List.find?_cons, h0]
    exact find_at (by simpa using h) hp (fun j y hj hy => hn (j + 1) y (by omega) (by simpa using hy))
theorem find_no {α : Type} {p : α → Bool} {l : List α} (hn : ∀ (j : Nat) (y : α), l[j]? = some y → p y = false) : l.find? p = none := by
  rw [List.find?_eq_none]
  intro x hx
  obtain ⟨j, hj⟩ := List.getElem?_of_mem hx
  simp [hn j x hj]
def opA : Array Value := #[stv [111, 114], .int .i64 18, .int .i64 1, .int .i64 1, .int .i64 2, stv [97, 110, 100], .int .i64 17, .int .i64 2, .int .i64 2, .int .i64 3, stv [61], .int .i64 13, .int .i64 4, .int .i64 5, .int .i64 5, stv [33, 61], .int .i64 14, .int .i64 4, .int .i64 5, .int .i64 5, stv [60], .int .i64 15, .int .i64 4, .int .i64 5, .int .i64 5, stv [60, 61], .int .i64 16, .int .i64 4, .int .i64 5, .int .i64 5, stv [43], .int .i64 8, .int .i64 5, .int .i64 5, .int .i64 6, stv [45], .int .i64 9, .int .i64 5, .int .i64 5, .int .i64 6, stv [42], .int .i64 10, .int .i64 6, .int .i64 6, .int .i64 7, stv [47], .int .i64 11, .int .i64 6, .int .i64 6, .int .i64 7, stv [37], .int .i64 12, .int .i64 6, .int .i64 6, .int .i64 7]
/-- The table lies in memory as the program's text lays it. -/
def OpW (w : World) : Prop := ∃ t fr, w.heap[3]? = some (.cells opA t fr)
theorem OpW.lt {w : World} (h : OpW w) : 3 < w.heap.size := by
  obtain ⟨t, fr, h⟩ := h
  exact lt_of_block h
theorem OpW.below {w w' : World} (h : OpW w) (b : Below w.heap.size w w') : OpW w' := by
  have hl := h.lt
  obtain ⟨t, fr, h⟩ := h
  exact ⟨t, fr, (b.block _ hl).trans h⟩
theorem opInfo : (Tryd.prog.info? 141).map (·.size) = some opA.size := by kernel_rfl
theorem opix0 (w : World) : (Instr.index 141 (.agg opA) (.int .i64 0)).run Tryd.prog w = .ok (.agg #[stv [111, 114], .int .i64 18, .int .i64 1, .int .i64 1, .int .i64 2]) w := by kernel_rfl
theorem opix1 (w : World) : (Instr.index 141 (.agg opA) (.int .i64 1)).run Tryd.prog w = .ok (.agg #[stv [97, 110, 100], .int .i64 17, .int .i64 2, .int .i64 2, .int .i64 3]) w := by kernel_rfl
theorem opix2 (w : World) : (Instr.index 141 (.agg opA) (.int .i64 2)).run Tryd.prog w = .ok (.agg #[stv [61], .int .i64 13, .int .i64 4, .int .i64 5, .int .i64 5]) w := by kernel_rfl
theorem opix3 (w : World) : (Instr.index 141 (.agg opA) (.int .i64 3)).run Tryd.prog w = .ok (.agg #[stv [33, 61], .int .i64 14, .int .i64 4, .int .i64 5, .int .i64 5]) w := by kernel_rfl
theorem opix4 (w : World) : (Instr.index 141 (.agg opA) (.int .i64 4)).run Tryd.prog w = .ok (.agg #[stv [60], .int .i64 15, .int .i64 4, .int .i64 5, .int .i64 5]) w := by kernel_rfl
theorem opix5 (w : World) : (Instr.index 141 (.agg opA) (.int .i64 5)).run Tryd.prog w = .ok (.agg #[stv [60, 61], .int .i64 16, .int .i64 4, .int .i64 5, .int .i64 5]) w := by kernel_rfl
theorem opix6 (w : World) : (Instr.index 141 (.agg opA) (.int .i64 6)).run Tryd.prog w = .ok (.agg #[stv [43], .int .i64 8, .int .i64 5, .int .i64 5, .int .i64 6]) w := by kernel_rfl
theorem opix7 (w : World) : (Instr.index 141 (.agg opA) (.int .i64 7)).run Tryd.prog w = .ok (.agg #[stv [45], .int .i64 9, .int .i64 5, .int .i64 5, .int .i64 6]) w := by kernel_rfl
theorem opix8 (w : World) : (Instr.index 141 (.agg opA) (.int .i64 8)).run Tryd.prog w = .ok (.agg #[stv [42], .int .i64 10, .int .i64 6, .int .i64 6, .int .i64 7]) w := by kernel_rfl
theorem opix9 (w : World) : (Instr.index 141 (.agg opA) (.int .i64 9)).run Tryd.prog w = .ok (.agg #[stv [47], .int .i64 11, .int .i64 6, .int .i64 6, .int .i64 7]) w := by kernel_rfl
theorem opix10 (w : World) : (Instr.index 141 (.agg opA) (.int .i64 10)).run Tryd.prog w = .ok (.agg #[stv [37], .int .i64 12, .int .i64 6, .int .i64 6, .int .i64 7]) w := by kernel_rfl
theorem opA_at (k : Nat) (x : List UInt8 × Nat × Nat × Nat × Nat) (hx : opsL[k]? = some x) (w : World) : (Instr.index 141 (.agg opA) (.int .i64 (k : Nat))).run Tryd.prog w = .ok (.agg #[stv x.1, .int .i64 (x.2.1 : Nat), .int .i64 (x.2.2.1 : Nat), .int .i64 (x.2.2.2.1 : Nat), .int .i64 (x.2.2.2.2 : Nat)]) w := by
  match k, hx with
  | 0, hx => simp [opsL] at hx; subst hx; exact opix0 w
  | 1, hx => simp [opsL] at hx; subst hx; exact opix1 w
  | 2, hx => simp [opsL] at hx; subst hx; exact opix2 w
  | 3, hx => simp [opsL] at hx; subst hx; exact opix3 w
  | 4, hx => simp [opsL] at hx; subst hx; exact opix4 w
  | 5, hx => simp [opsL] at hx; subst hx; exact opix5 w
  | 6, hx => simp [opsL] at hx; subst hx; exact opix6 w
  | 7, hx => simp [opsL] at hx; subst hx; exact opix7 w
  | 8, hx => simp [opsL] at hx; subst hx; exact opix8 w
  | 9, hx => simp [opsL] at hx; subst hx; exact opix9 w
  | 10, hx => simp [opsL] at hx; subst hx; exact opix10 w
  | k + 11, hx => simp [opsL] at hx
def clA : Array Value := #[stv [99, 111, 110, 110, 101, 99, 116, 101, 100], .int .i64 1, .int .i64 2, stv [98, 108, 111, 99, 107], .int .i64 2, .int .i64 2, stv [98, 111, 116, 116, 108, 101, 110, 101, 99, 107], .int .i64 3, .int .i64 2, stv [115, 105, 122, 101], .int .i64 4, .int .i64 1, stv [116, 111, 116, 97, 108], .int .i64 5, .int .i64 1, stv [108, 101, 97, 115, 116], .int .i64 6, .int .i64 1, stv [109, 111, 115, 116], .int .i64 7, .int .i64 1, stv [118, 97, 108, 117, 101], .int .i64 8, .int .i64 1, stv [100, 101, 103, 114, 101, 101], .int .i64 9, .int .i64 1, stv [114, 101, 112], .int .i64 10, .int .i64 1]
/-- The table lies in memory as the program's text lays it. -/
def ClW (w : World) : Prop := ∃ t fr, w.heap[0]? = some (.cells clA t fr)
theorem ClW.lt {w : World} (h : ClW w) : 0 < w.heap.size := by
  obtain ⟨t, fr, h⟩ := h
  exact lt_of_block h
theorem ClW.below {w w' : World} (h : ClW w) (b : Below w.heap.size w w') : ClW w' := by
  have hl := h.lt
  obtain ⟨t, fr, h⟩ := h
  exact ⟨t, fr, (b.block _ hl).trans h⟩
theorem clInfo : (Tryd.prog.info? 126).map (·.size) = some clA.size := by kernel_rfl
theorem clix0 (w : World) : (Instr.index 126 (.agg clA) (.int .i64 0)).run Tryd.prog w = .ok (.agg #[stv [99, 111, 110, 110, 101, 99, 116, 101, 100], .int .i64 1, .int .i64 2]) w := by kernel_rfl
theorem clix1 (w : World) : (Instr.index 126 (.agg clA) (.int .i64 1)).run Tryd.prog w = .ok (.agg #[stv [98, 108, 111, 99, 107], .int .i64 2, .int .i64 2]) w := by kernel_rfl
theorem clix2 (w : World) : (Instr.index 126 (.agg clA) (.int .i64 2)).run Tryd.prog w = .ok (.agg #[stv [98, 111, 116, 116, 108, 101, 110, 101, 99, 107], .int .i64 3, .int .i64 2]) w := by kernel_rfl
theorem clix3 (w : World) : (Instr.index 126 (.agg clA) (.int .i64 3)).run Tryd.prog w = .ok (.agg #[stv [115, 105, 122, 101], .int .i64 4, .int .i64 1]) w := by kernel_rfl
theorem clix4 (w : World) : (Instr.index 126 (.agg clA) (.int .i64 4)).run Tryd.prog w = .ok (.agg #[stv [116, 111, 116, 97, 108], .int .i64 5, .int .i64 1]) w := by kernel_rfl
theorem clix5 (w : World) : (Instr.index 126 (.agg clA) (.int .i64 5)).run Tryd.prog w = .ok (.agg #[stv [108, 101, 97, 115, 116], .int .i64 6, .int .i64 1]) w := by kernel_rfl
theorem clix6 (w : World) : (Instr.index 126 (.agg clA) (.int .i64 6)).run Tryd.prog w = .ok (.agg #[stv [109, 111, 115, 116], .int .i64 7, .int .i64 1]) w := by kernel_rfl
theorem clix7 (w : World) : (Instr.index 126 (.agg clA) (.int .i64 7)).run Tryd.prog w = .ok (.agg #[stv [118, 97, 108, 117, 101], .int .i64 8, .int .i64 1]) w := by kernel_rfl
theorem clix8 (w : World) : (Instr.index 126 (.agg clA) (.int .i64 8)).run Tryd.prog w = .ok (.agg #[stv [100, 101, 103, 114, 101, 101], .int .i64 9, .int .i64 1]) w := by kernel_rfl
theorem clix9 (w : World) : (Instr.index 126 (.agg clA) (.int .i64 9)).run Tryd.prog w = .ok (.agg #[stv [114, 101, 112], .int .i64 10, .int .i64 1]) w := by kernel_rfl
theorem clA_at (k : Nat) (x : List UInt8 × Nat × Nat) (hx : callsL[k]? = some x) (w : World) : (Instr.index 126 (.agg clA) (.int .i64 (k : Nat))).run Tryd.prog w = .ok (.agg #[stv x.1, .int .i64 (x.2.1 : Nat), .int .i64 (x.2.2 : Nat)]) w := by
  match k, hx with
  | 0, hx => simp [callsL] at hx; subst hx; exact clix0 w
  | 1, hx => simp [callsL] at hx; subst hx; exact clix1 w
  | 2, hx => simp [callsL] at hx; subst hx; exact clix2 w
  | 3, hx => simp [callsL] at hx; subst hx; exact clix3 w
  | 4, hx => simp [callsL] at hx; subst hx; exact clix4 w
  | 5, hx => simp [callsL] at hx; subst hx; exact clix5 w
  | 6, hx => simp [callsL] at hx; subst hx; exact clix6 w
  | 7, hx => simp [callsL] at hx; subst hx; exact clix7 w
  | 8, hx => simp [callsL] at hx; subst hx; exact clix8 w
  | 9, hx => simp [callsL] at hx; subst hx; exact clix9 w
  | k + 10, hx => simp [callsL] at hx
def qnA : Array Value := #[stv [97, 108, 108], .int .i64 1, stv [115, 111, 109, 101], .int .i64 2, stv [99, 111, 117, 110, 116], .int .i64 3, stv [115, 117, 109], .int .i64 4, stv [109, 105, 110], .int .i64 5, stv [109, 97, 120], .int .i64 6]
/-- The table lies in memory as the program's text lays it. -/
def QnW (w : World) : Prop := ∃ t fr, w.heap[2]? = some (.cells qnA t fr)
theorem QnW.lt {w : World} (h : QnW w) : 2 < w.heap.size := by
  obtain ⟨t, fr, h⟩ := h
  exact lt_of_block h
theorem QnW.below {w w' : World} (h : QnW w) (b : Below w.heap.size w w') : QnW w' := by
  have hl := h.lt
  obtain ⟨t, fr, h⟩ := h
  exact ⟨t, fr, (b.block _ hl).trans h⟩
theorem qnInfo : (Tryd.prog.info? 140).map (·.size) = some qnA.size := by kernel_rfl
theorem qnix0 (w : World) : (Instr.index 140 (.agg qnA) (.int .i64 0)).run Tryd.prog w = .ok (.agg #[stv [97, 108, 108], .int .i64 1]) w := by kernel_rfl
theorem qnix1 (w : World) : (Instr.index 140 (.agg qnA) (.int .i64 1)).run Tryd.prog w = .ok (.agg #[stv [115, 111, 109, 101], .int .i64 2]) w := by kernel_rfl
theorem qnix2 (w : World) : (Instr.index 140 (.agg qnA) (.int .i64 2)).run Tryd.prog w = .ok (.agg #[stv [99, 111, 117, 110, 116], .int .i64 3]) w := by kernel_rfl
theorem qnix3 (w : World) : (Instr.index 140 (.agg qnA) (.int .i64 3)).run Tryd.prog w = .ok (.agg #[stv [115, 117, 109], .int .i64 4]) w := by kernel_rfl
theorem qnix4 (w : World) : (Instr.index 140 (.agg qnA) (.int .i64 4)).run Tryd.prog w = .ok (.agg #[stv [109, 105, 110], .int .i64 5]) w := by kernel_rfl
theorem qnix5 (w : World) : (Instr.index 140 (.agg qnA) (.int .i64 5)).run Tryd.prog w = .ok (.agg #[stv [109, 97, 120], .int .i64 6]) w := by kernel_rfl
theorem qnA_at (k : Nat) (x : List UInt8 × Nat) (hx : quantsL[k]? = some x) (w : World) : (Instr.index 140 (.agg qnA) (.int .i64 (k : Nat))).run Tryd.prog w = .ok (.agg #[stv x.1, .int .i64 (x.2 : Nat)]) w := by
  match k, hx with
  | 0, hx => simp [quantsL] at hx; subst hx; exact qnix0 w
  | 1, hx => simp [quantsL] at hx; subst hx; exact qnix1 w
  | 2, hx => simp [quantsL] at hx; subst hx; exact qnix2 w
  | 3, hx => simp [quantsL] at hx; subst hx; exact qnix3 w
  | 4, hx => simp [quantsL] at hx; subst hx; exact qnix4 w
  | 5, hx => simp [quantsL] at hx; subst hx; exact qnix5 w
  | k + 6, hx => simp [quantsL] at hx
/-- What is found. -/
def opF (r : Option (List UInt8 × Nat × Nat × Nat × Nat)) : Value := match r with | some x => .tuple #[.agg #[stv x.1, .int .i64 (x.2.1 : Nat), .int .i64 (x.2.2.1 : Nat), .int .i64 (x.2.2.2.1 : Nat), .int .i64 (x.2.2.2.2 : Nat)], .bool true] | none => .tuple #[.agg #[.string ⟨#[]⟩, .int .i64 0, .int .i64 0, .int .i64 0, .int .i64 0], .bool false]
/-- What is found. -/
def clF (r : Option (List UInt8 × Nat × Nat)) : Value := match r with | some x => .tuple #[.agg #[stv x.1, .int .i64 (x.2.1 : Nat), .int .i64 (x.2.2 : Nat)], .bool true] | none => .tuple #[.agg #[.string ⟨#[]⟩, .int .i64 0, .int .i64 0], .bool false]
/-- What is found. -/
def qnF (r : Option (List UInt8 × Nat)) : Value := match r with | some x => .tuple #[.agg #[stv x.1, .int .i64 (x.2 : Nat)], .bool true] | none => .tuple #[.agg #[.string ⟨#[]⟩, .int .i64 0], .bool false]
end Go.Proofs.YtafnlhnenmpfoaaDoor
