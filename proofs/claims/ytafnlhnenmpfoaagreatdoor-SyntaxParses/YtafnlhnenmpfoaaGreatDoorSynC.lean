/- The tables of package syntax, and what is found in them by a text. -/
import Derived.Test.YtafnlhnenmpfoaaGreatDoorSynB
import Derived.Deep.MidRow
import Derived.Deep.CutBlock
import Derived.Deep.DeepCutAuto
import Derived.Laws.ResultCell
namespace Go.Proofs.YtafnlhnenmpfoaaGreatDoor
open Go.ChangeShapes Go.WideShapes Go.ChangeAt Go.RowKit
set_option linter.unusedVariables false

theorem Blk.cells5 {w : World} {o : Nat → Nat} {i b : Nat} {a0 a1 a2 a3 a4 : Value} {t : TypeId} (h : Blk w o i b (.cells #[a0, a1, a2, a3, a4] t (0, 0))) :
    w.cell? ⟨b, 0, none⟩ = some a0 ∧ w.cell? ⟨b, 1, none⟩ = some a1 ∧ w.cell? ⟨b, 2, none⟩ = some a2 ∧ w.cell? ⟨b, 3, none⟩ = some a3 ∧ w.cell? ⟨b, 4, none⟩ = some a4 ∧ ∀ j, w.frozen? ⟨b, j, none⟩ = false := by
  refine ⟨?_, ?_, ?_, ?_, ?_, fun j => frozen_of_row w b j _ t h.1⟩ <;> simp [cell_of_row w b _ _ t (0, 0) h.1]
theorem Blk.cells2 {w : World} {o : Nat → Nat} {i b : Nat} {a0 a1 : Value} {t : TypeId} (h : Blk w o i b (.cells #[a0, a1] t (0, 0))) :
    w.cell? ⟨b, 0, none⟩ = some a0 ∧ w.cell? ⟨b, 1, none⟩ = some a1 ∧ ∀ j, w.frozen? ⟨b, j, none⟩ = false := by
  refine ⟨?_, ?_, fun j => frozen_of_row w b j _ t h.1⟩ <;> simp [cell_of_row w b _ _ t (0, 0) h.1]
theorem find_at {α : Type} {p : α → Bool} : ∀ {l : List α} {k : Nat} {x : α}, l[k]? = some x → p x = true → (∀ (j : Nat) (y : α), j < k → l[j]? = some y → p y = false) → l.find? p = some x
  | [], k, x, h, _, _ => by simp at h
  | a :: l, 0, x, h, hp, _ => by
    simp at h
    subst h
    simp [hp]
  | a :: l, k + 1, x, h, hp, hn => by
    have h0 := hn 0 a (by omega) rfl
    rw [List.find?_cons, h0]
    exact find_at (by simpa using h) hp (fun j y hj hy => hn (j + 1) y (by omega) (by simpa using hy))
theorem find_no {α : Type} {p : α → Bool} {l : List α} (hn : ∀ (j : Nat) (y : α), l[j]? = some y → p y = false) : l.find? p = none := by
  rw [List.find?_eq_none]
  intro x hx
  obtain ⟨j, hj⟩ := List.getElem?_of_mem hx
  simp [hn j x hj]
def opA : Array Value := #[stv [111, 114], .int .i64 18, .int .i64 1, .int .i64 1, .int .i64 2, stv [97, 110, 100], .int .i64 17, .int .i64 2, .int .i64 2, .int .i64 3, stv [61], .int .i64 13, .int .i64 4, .int .i64 5, .int .i64 5, stv [33, 61], .int .i64 14, .int .i64 4, .int .i64 5, .int .i64 5, stv [60], .int .i64 15, .int .i64 4, .int .i64 5, .int .i64 5, stv [60, 61], .int .i64 16, .int .i64 4, .int .i64 5, .int .i64 5, stv [43], .int .i64 8, .int .i64 5, .int .i64 5, .int .i64 6, stv [45], .int .i64 9, .int .i64 5, .int .i64 5, .int .i64 6, stv [42], .int .i64 10, .int .i64 6, .int .i64 6, .int .i64 7, stv [47], .int .i64 11, .int .i64 6, .int .i64 6, .int .i64 7, stv [37], .int .i64 12, .int .i64 6, .int .i64 6, .int .i64 7]
/-- The table lies in memory as the program's text lays it. -/
def OpW (w : World) : Prop := ∃ t fr, w.heap[3]? = some (.cells opA t fr)
theorem OpW.lt {w : World} (h : OpW w) : 3 < w.heap.size := by
  obtain ⟨t, fr, h⟩ := h
  exact lt_of_block h
theorem OpW.below {w w' : World} (h : OpW w) (b : Below w.heap.size w w') : OpW w' := by
  have hl := h.lt
  obtain ⟨t, fr, h⟩ := h
  exact ⟨t, fr, (b.block _ hl).trans h⟩
theorem opInfo : (Tryz.prog.info? 152).map (·.size) = some opA.size := by kernel_rfl
theorem opix0 (w : World) : (Instr.index 152 (.agg opA) (.int .i64 0)).run Tryz.prog w = .ok (.agg #[stv [111, 114], .int .i64 18, .int .i64 1, .int .i64 1, .int .i64 2]) w := by kernel_rfl
theorem opix1 (w : World) : (Instr.index 152 (.agg opA) (.int .i64 1)).run Tryz.prog w = .ok (.agg #[stv [97, 110, 100], .int .i64 17, .int .i64 2, .int .i64 2, .int .i64 3]) w := by kernel_rfl
theorem opix2 (w : World) : (Instr.index 152 (.agg opA) (.int .i64 2)).run Tryz.prog w = .ok (.agg #[stv [61], .int .i64 13, .int .i64 4, .int .i64 5, .int .i64 5]) w := by kernel_rfl
theorem opix3 (w : World) : (Instr.index 152 (.agg opA) (.int .i64 3)).run Tryz.prog w = .ok (.agg #[stv [33, 61], .int .i64 14, .int .i64 4, .int .i64 5, .int .i64 5]) w := by kernel_rfl
theorem opix4 (w : World) : (Instr.index 152 (.agg opA) (.int .i64 4)).run Tryz.prog w = .ok (.agg #[stv [60], .int .i64 15, .int .i64 4, .int .i64 5, .int .i64 5]) w := by kernel_rfl
theorem opix5 (w : World) : (Instr.index 152 (.agg opA) (.int .i64 5)).run Tryz.prog w = .ok (.agg #[stv [60, 61], .int .i64 16, .int .i64 4, .int .i64 5, .int .i64 5]) w := by kernel_rfl
theorem opix6 (w : World) : (Instr.index 152 (.agg opA) (.int .i64 6)).run Tryz.prog w = .ok (.agg #[stv [43], .int .i64 8, .int .i64 5, .int .i64 5, .int .i64 6]) w := by kernel_rfl
theorem opix7 (w : World) : (Instr.index 152 (.agg opA) (.int .i64 7)).run Tryz.prog w = .ok (.agg #[stv [45], .int .i64 9, .int .i64 5, .int .i64 5, .int .i64 6]) w := by kernel_rfl
theorem opix8 (w : World) : (Instr.index 152 (.agg opA) (.int .i64 8)).run Tryz.prog w = .ok (.agg #[stv [42], .int .i64 10, .int .i64 6, .int .i64 6, .int .i64 7]) w := by kernel_rfl
theorem opix9 (w : World) : (Instr.index 152 (.agg opA) (.int .i64 9)).run Tryz.prog w = .ok (.agg #[stv [47], .int .i64 11, .int .i64 6, .int .i64 6, .int .i64 7]) w := by kernel_rfl
theorem opix10 (w : World) : (Instr.index 152 (.agg opA) (.int .i64 10)).run Tryz.prog w = .ok (.agg #[stv [37], .int .i64 12, .int .i64 6, .int .i64 6, .int .i64 7]) w := by kernel_rfl
theorem opA_at (k : Nat) (x : List UInt8 × Nat × Nat × Nat × Nat) (hx : opsL[k]? = some x) (w : World) : (Instr.index 152 (.agg opA) (.int .i64 (k : Nat))).run Tryz.prog w = .ok (.agg #[stv x.1, .int .i64 (x.2.1 : Nat), .int .i64 (x.2.2.1 : Nat), .int .i64 (x.2.2.2.1 : Nat), .int .i64 (x.2.2.2.2 : Nat)]) w := by
  match k, hx with
  | 0, hx => simp [opsL] at hx; subst hx; exact opix0 w
  | 1, hx => simp [opsL] at hx; subst hx; exact opix1 w
  | 2, hx => simp [opsL] at hx; subst hx; exact opix2 w
  | 3, hx => simp [opsL] at hx; subst hx; exact opix3 w
  | 4, hx => simp [opsL] at hx; subst hx; exact opix4 w
  | 5, hx => simp [opsL] at hx; subst hx; exact opix5 w
  | 6, hx => simp [opsL] at hx; subst hx; exact opix6 w
  | 7, hx => simp [opsL] at hx; subst hx; exact opix7 w
  | 8, hx => simp [opsL] at hx; subst hx; exact opix8 w
  | 9, hx => simp [opsL] at hx; subst hx; exact opix9 w
  | 10, hx => simp [opsL] at hx; subst hx; exact opix10 w
  | k + 11, hx => simp [opsL] at hx
def clA : Array Value := #[stv [99, 111, 110, 110, 101, 99, 116, 101, 100], .int .i64 1, .int .i64 2, stv [98, 108, 111, 99, 107], .int .i64 2, .int .i64 2, stv [98, 111, 116, 116, 108, 101, 110, 101, 99, 107], .int .i64 3, .int .i64 2, stv [115, 105, 122, 101], .int .i64 4, .int .i64 1, stv [116, 111, 116, 97, 108], .int .i64 5, .int .i64 1, stv [108, 101, 97, 115, 116], .int .i64 6, .int .i64 1, stv [109, 111, 115, 116], .int .i64 7, .int .i64 1, stv [118, 97, 108, 117, 101], .int .i64 8, .int .i64 1, stv [100, 101, 103, 114, 101, 101], .int .i64 9, .int .i64 1, stv [114, 101, 112], .int .i64 10, .int .i64 1]
/-- The table lies in memory as the program's text lays it. -/
def ClW (w : World) : Prop := ∃ t fr, w.heap[0]? = some (.cells clA t fr)
theorem ClW.lt {w : World} (h : ClW w) : 0 < w.heap.size := by
  obtain ⟨t, fr, h⟩ := h
  exact lt_of_block h
theorem ClW.below {w w' : World} (h : ClW w) (b : Below w.heap.size w w') : ClW w' := by
  have hl := h.lt
  obtain ⟨t, fr, h⟩ := h
  exact ⟨t, fr, (b.block _ hl).trans h⟩
theorem clInfo : (Tryz.prog.info? 140).map (·.size) = some clA.size := by kernel_rfl
theorem clix0 (w : World) : (Instr.index 140 (.agg clA) (.int .i64 0)).run Tryz.prog w = .ok (.agg #[stv [99, 111, 110, 110, 101, 99, 116, 101, 100], .int .i64 1, .int .i64 2]) w := by kernel_rfl
theorem clix1 (w : World) : (Instr.index 140 (.agg clA) (.int .i64 1)).run Tryz.prog w = .ok (.agg #[stv [98, 108, 111, 99, 107], .int .i64 2, .int .i64 2]) w := by kernel_rfl
theorem clix2 (w : World) : (Instr.index 140 (.agg clA) (.int .i64 2)).run Tryz.prog w = .ok (.agg #[stv [98, 111, 116, 116, 108, 101, 110, 101, 99, 107], .int .i64 3, .int .i64 2]) w := by kernel_rfl
theorem clix3 (w : World) : (Instr.index 140 (.agg clA) (.int .i64 3)).run Tryz.prog w = .ok (.agg #[stv [115, 105, 122, 101], .int .i64 4, .int .i64 1]) w := by kernel_rfl
theorem clix4 (w : World) : (Instr.index 140 (.agg clA) (.int .i64 4)).run Tryz.prog w = .ok (.agg #[stv [116, 111, 116, 97, 108], .int .i64 5, .int .i64 1]) w := by kernel_rfl
theorem clix5 (w : World) : (Instr.index 140 (.agg clA) (.int .i64 5)).run Tryz.prog w = .ok (.agg #[stv [108, 101, 97, 115, 116], .int .i64 6, .int .i64 1]) w := by kernel_rfl
theorem clix6 (w : World) : (Instr.index 140 (.agg clA) (.int .i64 6)).run Tryz.prog w = .ok (.agg #[stv [109, 111, 115, 116], .int .i64 7, .int .i64 1]) w := by kernel_rfl
theorem clix7 (w : World) : (Instr.index 140 (.agg clA) (.int .i64 7)).run Tryz.prog w = .ok (.agg #[stv [118, 97, 108, 117, 101], .int .i64 8, .int .i64 1]) w := by kernel_rfl
theorem clix8 (w : World) : (Instr.index 140 (.agg clA) (.int .i64 8)).run Tryz.prog w = .ok (.agg #[stv [100, 101, 103, 114, 101, 101], .int .i64 9, .int .i64 1]) w := by kernel_rfl
theorem clix9 (w : World) : (Instr.index 140 (.agg clA) (.int .i64 9)).run Tryz.prog w = .ok (.agg #[stv [114, 101, 112], .int .i64 10, .int .i64 1]) w := by kernel_rfl
theorem clA_at (k : Nat) (x : List UInt8 × Nat × Nat) (hx : callsL[k]? = some x) (w : World) : (Instr.index 140 (.agg clA) (.int .i64 (k : Nat))).run Tryz.prog w = .ok (.agg #[stv x.1, .int .i64 (x.2.1 : Nat), .int .i64 (x.2.2 : Nat)]) w := by
  match k, hx with
  | 0, hx => simp [callsL] at hx; subst hx; exact clix0 w
  | 1, hx => simp [callsL] at hx; subst hx; exact clix1 w
  | 2, hx => simp [callsL] at hx; subst hx; exact clix2 w
  | 3, hx => simp [callsL] at hx; subst hx; exact clix3 w
  | 4, hx => simp [callsL] at hx; subst hx; exact clix4 w
  | 5, hx => simp [callsL] at hx; subst hx; exact clix5 w
  | 6, hx => simp [callsL] at hx; subst hx; exact clix6 w
  | 7, hx => simp [callsL] at hx; subst hx; exact clix7 w
  | 8, hx => simp [callsL] at hx; subst hx; exact clix8 w
  | 9, hx => simp [callsL] at hx; subst hx; exact clix9 w
  | k + 10, hx => simp [callsL] at hx
def qnA : Array Value := #[stv [97, 108, 108], .int .i64 1, stv [115, 111, 109, 101], .int .i64 2, stv [99, 111, 117, 110, 116], .int .i64 3, stv [115, 117, 109], .int .i64 4, stv [109, 105, 110], .int .i64 5, stv [109, 97, 120], .int .i64 6]
/-- The table lies in memory as the program's text lays it. -/
def QnW (w : World) : Prop := ∃ t fr, w.heap[2]? = some (.cells qnA t fr)
theorem QnW.lt {w : World} (h : QnW w) : 2 < w.heap.size := by
  obtain ⟨t, fr, h⟩ := h
  exact lt_of_block h
theorem QnW.below {w w' : World} (h : QnW w) (b : Below w.heap.size w w') : QnW w' := by
  have hl := h.lt
  obtain ⟨t, fr, h⟩ := h
  exact ⟨t, fr, (b.block _ hl).trans h⟩
theorem qnInfo : (Tryz.prog.info? 151).map (·.size) = some qnA.size := by kernel_rfl
theorem qnix0 (w : World) : (Instr.index 151 (.agg qnA) (.int .i64 0)).run Tryz.prog w = .ok (.agg #[stv [97, 108, 108], .int .i64 1]) w := by kernel_rfl
theorem qnix1 (w : World) : (Instr.index 151 (.agg qnA) (.int .i64 1)).run Tryz.prog w = .ok (.agg #[stv [115, 111, 109, 101], .int .i64 2]) w := by kernel_rfl
theorem qnix2 (w : World) : (Instr.index 151 (.agg qnA) (.int .i64 2)).run Tryz.prog w = .ok (.agg #[stv [99, 111, 117, 110, 116], .int .i64 3]) w := by kernel_rfl
theorem qnix3 (w : World) : (Instr.index 151 (.agg qnA) (.int .i64 3)).run Tryz.prog w = .ok (.agg #[stv [115, 117, 109], .int .i64 4]) w := by kernel_rfl
theorem qnix4 (w : World) : (Instr.index 151 (.agg qnA) (.int .i64 4)).run Tryz.prog w = .ok (.agg #[stv [109, 105, 110], .int .i64 5]) w := by kernel_rfl
theorem qnix5 (w : World) : (Instr.index 151 (.agg qnA) (.int .i64 5)).run Tryz.prog w = .ok (.agg #[stv [109, 97, 120], .int .i64 6]) w := by kernel_rfl
theorem qnA_at (k : Nat) (x : List UInt8 × Nat) (hx : quantsL[k]? = some x) (w : World) : (Instr.index 151 (.agg qnA) (.int .i64 (k : Nat))).run Tryz.prog w = .ok (.agg #[stv x.1, .int .i64 (x.2 : Nat)]) w := by
  match k, hx with
  | 0, hx => simp [quantsL] at hx; subst hx; exact qnix0 w
  | 1, hx => simp [quantsL] at hx; subst hx; exact qnix1 w
  | 2, hx => simp [quantsL] at hx; subst hx; exact qnix2 w
  | 3, hx => simp [quantsL] at hx; subst hx; exact qnix3 w
  | 4, hx => simp [quantsL] at hx; subst hx; exact qnix4 w
  | 5, hx => simp [quantsL] at hx; subst hx; exact qnix5 w
  | k + 6, hx => simp [quantsL] at hx
/-- What is found. -/
def opF (r : Option (List UInt8 × Nat × Nat × Nat × Nat)) : Value := match r with | some x => .tuple #[.agg #[stv x.1, .int .i64 (x.2.1 : Nat), .int .i64 (x.2.2.1 : Nat), .int .i64 (x.2.2.2.1 : Nat), .int .i64 (x.2.2.2.2 : Nat)], .bool true] | none => .tuple #[.agg #[.string ⟨#[]⟩, .int .i64 0, .int .i64 0, .int .i64 0, .int .i64 0], .bool false]
set_option maxRecDepth 100000 in
set_option maxHeartbeats 1000000 in
theorem opAt_r (t : List UInt8) (row : Nat) (w : World) (hO : OpW w) :
    Calls Tryz.prog 148 #[stv t, .int .i64 (row : Nat)] w fun e w' => e = .returned (opF (opsL.find? (fun x => x.1 == t && x.2.2.1 == row))) ∧ Below w.heap.size w w' := by
  obtain ⟨tt, fr, hg⟩ := hO
  have IX : Hid (∀ (k : Nat) (x : List UInt8 × Nat × Nat × Nat × Nat), opsL[k]? = some x → ∀ w : World, (Instr.index 152 (.agg opA) (.int .i64 (k : Nat))).run Tryz.prog w = .ok (.agg #[stv x.1, .int .i64 (x.2.1 : Nat), .int .i64 (x.2.2.1 : Nat), .int .i64 (x.2.2.2.1 : Nat), .int .i64 (x.2.2.2.2 : Nat)]) w) := fun k x hx w => opA_at k x hx w
  have hsz := opInfo
  have hlen : opsL.length = 11 := rfl
  have B0 : Below w.heap.size w (w.alloc (.cells #[.string ⟨#[]⟩, .int .i64 0, .int .i64 0, .int .i64 0, .int .i64 0] 137)) := (Below.refl _ w).alloc (Nat.le_refl _) _
  have Z0 : (w.alloc (.cells #[.string ⟨#[]⟩, .int .i64 0, .int .i64 0, .int .i64 0, .int .i64 0] 137)).heap[w.heap.size]? = some (.cells #[.string ⟨#[]⟩, .int .i64 0, .int .i64 0, .int .i64 0, .int .i64 0] 137 (0, 0)) := heap_alloc_new w _
  have hg1 := (B0.block _ (lt_of_block hg)).trans hg
  generalize opA = cs at *
  generalize hl : opsL = l at *
  clear hg
  go_enter Tryz.func148, Tryz.ntmps148
  go_wp2_with (refine wpList_load_row rfl 152 _ rfl 3 rfl tt _ fr _ hg1 Tryz.underlying152 rfl hsz ?_)
  go_loopw [9] (fun v wr => ∃ k : Nat, k ≤ 11 ∧ v = .int .i64 (k : Nat) ∧ Hid (∀ j x, j < k → l[j]? = some x → (x.1 == t && x.2.2.1 == row) = false) ∧ wr.heap[w.heap.size]? = some (.cells #[.string ⟨#[]⟩, .int .i64 0, .int .i64 0, .int .i64 0, .int .i64 0] 137 (0, 0)) ∧ Below w.heap.size w wr) (fun v _ => 11 - (intOf v).toNat)
  case atStart => exact ⟨0, by omega, by go_num, (fun j x hj => by omega : _), Z0, B0⟩
  case round =>
    clear Z0 B0 hg1
    obtain ⟨k, hk, rfl, hin, Z, B⟩ := hrel
    by_cases hlt : k < 11
    · obtain ⟨x, hx⟩ : ∃ x, l[k]? = some x := ⟨l[k]'(by omega), by simp [hlen, hlt]⟩
      have ix := IX.out k x hx
      have hkI : (k : Int) < 11 := by omega
      have hbl := lt_of_block Z
      have Zn := (Below.heap_alloc wr (.cells #[stv x.1, .int .i64 (x.2.1 : Nat), .int .i64 (x.2.2.1 : Nat), .int .i64 (x.2.2.2.1 : Nat), .int .i64 (x.2.2.2.2 : Nat)] 137) _ hbl).trans Z
      have Xn : (wr.alloc (.cells #[stv x.1, .int .i64 (x.2.1 : Nat), .int .i64 (x.2.2.1 : Nat), .int .i64 (x.2.2.2.1 : Nat), .int .i64 (x.2.2.2.2 : Nat)] 137)).heap[wr.heap.size]? = _ := heap_alloc_new wr _
      have Bn : Below w.heap.size w (wr.alloc (.cells #[stv x.1, .int .i64 (x.2.1 : Nat), .int .i64 (x.2.2.1 : Nat), .int .i64 (x.2.2.2.1 : Nat), .int .i64 (x.2.2.2.2 : Nat)] 137)) := B.alloc B.size _
      by_cases hp : (x.1 == t && x.2.2.1 == row) = true
      · have fin : l.find? (fun x => x.1 == t && x.2.2.1 == row) = some x := find_at hx hp hin.out
        have hp1 : (x.1 == t) = true := by simp at hp; simp [hp.1]
        have hp2 : ((x.2.2.1 : Int) == (row : Int)) = true := by simp at hp; simp [hp.2]
        clear hin hlen IX hk hx hlt B Z hsz hl
        go_upto_region 5 with fail
        generalize wr.alloc (.cells #[stv x.1, .int .i64 (x.2.1 : Nat), .int .i64 (x.2.2.1 : Nat), .int .i64 (x.2.2.2.1 : Nat), .int .i64 (x.2.2.2.2 : Nat)] 137) = w3 at *
        generalize wr.heap.size = b7 at *
        have hbz := Blk.set (w := w3) (o := fun _ => 0) (i := 0) (b := w.heap.size) ⟨Zn, rfl⟩ 0 (.string ⟨x.1.toArray⟩)
        have hbz := hbz.set 1 (.int .i64 (x.2.1 : Nat))
        have hbz := hbz.set 2 (.int .i64 (x.2.2.1 : Nat))
        have hbz := hbz.set 3 (.int .i64 (x.2.2.2.1 : Nat))
        have hbz := hbz.set 4 (.int .i64 (x.2.2.2.2 : Nat))
        have BE := (((((Bn.setCell (p := ⟨w.heap.size, 0, none⟩) (Nat.le_refl _) (.string ⟨x.1.toArray⟩)).setCell (p := ⟨w.heap.size, 1, none⟩) (Nat.le_refl _) (.int .i64 (x.2.1 : Nat))).setCell (p := ⟨w.heap.size, 2, none⟩) (Nat.le_refl _) (.int .i64 (x.2.2.1 : Nat))).setCell (p := ⟨w.heap.size, 3, none⟩) (Nat.le_refl _) (.int .i64 (x.2.2.2.1 : Nat))).setCell (p := ⟨w.heap.size, 4, none⟩) (Nat.le_refl _) (.int .i64 (x.2.2.2.2 : Nat)))
        obtain ⟨u0, u1, u2, u3, u4, -⟩ := Blk.cells5 hbz
        obtain ⟨z0, z1, z2, z3, z4, zf⟩ := Blk.cells5 (o := fun _ => 0) (i := 0) ⟨Zn, rfl⟩
        obtain ⟨y0, y1, y2, y3, y4, yf⟩ := Blk.cells5 (o := fun _ => 0) (i := 0) ⟨Xn, rfl⟩
        clear hbz Zn Xn Bn
        go_wp2
        exact bodyPost_ret (v := .tuple #[.agg #[stv x.1, .int .i64 (x.2.1 : Nat), .int .i64 (x.2.2.1 : Nat), .int .i64 (x.2.2.2.1 : Nat), .int .i64 (x.2.2.2.2 : Nat)], .bool true]) (by simp [results, Tryz.results148, go_sem, u0, u1, u2, u3, u4]) rfl ⟨by rw [fin]; rfl, BE⟩
      · have hpf : (x.1 == t && x.2.2.1 == row) = false := by simpa using hp
        have hin' : Hid (∀ j x, j < k + 1 → l[j]? = some x → (x.1 == t && x.2.2.1 == row) = false) := fun j y hj hy => by
          by_cases e : j = k
          · subst e
            rw [hx] at hy
            injection hy with hy
            subst hy
            exact hpf
          · exact hin.out j y (by omega) hy
        have hcs : (x.1 == t) = false ∨ ((x.1 == t) = true ∧ ((x.2.2.1 : Int) == (row : Int)) = false) := by
          by_cases e : x.1 = t
          · simp [e] at hpf
            refine .inr ⟨by simp [e], ?_⟩
            rw [beq_eq_false_iff_ne]
            omega
          · exact .inl (by simpa using e)
        rcases hcs with hp1 | ⟨hp1, hp2⟩
        all_goals
          clear hin hlen IX hx B Z hsz hl
          go_wp2
          go_roundw
          case rel => (try ((repeat apply Exists.intro); refine ⟨?_, rfl⟩)); exact ⟨k + 1, by omega, by go_num, hin', Zn, Bn⟩
          case measure => simp [intOf]; omega
    · obtain rfl : k = 11 := by omega
      have fin : l.find? (fun x => x.1 == t && x.2.2.1 == row) = none := find_no fun j y hy => by
        refine hin.out j y ?_ hy
        by_cases hj : j < 11
        · exact hj
        · rw [List.getElem?_eq_none (by omega)] at hy
          cases hy
      clear hin IX hlt hlen hsz hl
      have hbz := Blk.set (w := wr) (o := fun _ => 0) (i := 0) (b := w.heap.size) ⟨Z, rfl⟩ 0 (.string ⟨#[]⟩)
      have hbz := hbz.set 1 (.int .i64 0)
      have hbz := hbz.set 2 (.int .i64 0)
      have hbz := hbz.set 3 (.int .i64 0)
      have hbz := hbz.set 4 (.int .i64 0)
      have BE := (((((B.setCell (p := ⟨w.heap.size, 0, none⟩) (Nat.le_refl _) (.string ⟨#[]⟩)).setCell (p := ⟨w.heap.size, 1, none⟩) (Nat.le_refl _) (.int .i64 0)).setCell (p := ⟨w.heap.size, 2, none⟩) (Nat.le_refl _) (.int .i64 0)).setCell (p := ⟨w.heap.size, 3, none⟩) (Nat.le_refl _) (.int .i64 0)).setCell (p := ⟨w.heap.size, 4, none⟩) (Nat.le_refl _) (.int .i64 0))
      obtain ⟨u0, u1, u2, u3, u4, -⟩ := Blk.cells5 hbz
      obtain ⟨z0, z1, z2, z3, z4, zf⟩ := Blk.cells5 (o := fun _ => 0) (i := 0) ⟨Z, rfl⟩
      clear hbz Z B
      go_wp2
      exact bodyPost_ret (v := .tuple #[.agg #[.string ⟨#[]⟩, .int .i64 0, .int .i64 0, .int .i64 0, .int .i64 0], .bool false]) (by simp [results, Tryz.results148, go_sem, u0, u1, u2, u3, u4]) rfl ⟨by rw [fin]; rfl, BE⟩
/-- What is found. -/
def clF (r : Option (List UInt8 × Nat × Nat)) : Value := match r with | some x => .tuple #[.agg #[stv x.1, .int .i64 (x.2.1 : Nat), .int .i64 (x.2.2 : Nat)], .bool true] | none => .tuple #[.agg #[.string ⟨#[]⟩, .int .i64 0, .int .i64 0], .bool false]
set_option maxRecDepth 100000 in
set_option maxHeartbeats 1000000 in
theorem callAt_r (t : List UInt8) (w : World) (hO : ClW w) :
    Calls Tryz.prog 145 #[stv t] w fun e w' => e = .returned (clF (callsL.find? (fun x => x.1 == t))) ∧ Below w.heap.size w w' := by
  obtain ⟨tt, fr, hg⟩ := hO
  have IX : Hid (∀ (k : Nat) (x : List UInt8 × Nat × Nat), callsL[k]? = some x → ∀ w : World, (Instr.index 140 (.agg clA) (.int .i64 (k : Nat))).run Tryz.prog w = .ok (.agg #[stv x.1, .int .i64 (x.2.1 : Nat), .int .i64 (x.2.2 : Nat)]) w) := fun k x hx w => clA_at k x hx w
  have hsz := clInfo
  have hlen : callsL.length = 10 := rfl
  have B0 : Below w.heap.size w (w.alloc (.cells #[.string ⟨#[]⟩, .int .i64 0, .int .i64 0] 121)) := (Below.refl _ w).alloc (Nat.le_refl _) _
  have Z0 : (w.alloc (.cells #[.string ⟨#[]⟩, .int .i64 0, .int .i64 0] 121)).heap[w.heap.size]? = some (.cells #[.string ⟨#[]⟩, .int .i64 0, .int .i64 0] 121 (0, 0)) := heap_alloc_new w _
  have hg1 := (B0.block _ (lt_of_block hg)).trans hg
  generalize clA = cs at *
  generalize hl : callsL = l at *
  clear hg
  go_enter Tryz.func145, Tryz.ntmps145
  go_wp2_with (refine wpList_load_row rfl 140 _ rfl 0 rfl tt _ fr _ hg1 Tryz.underlying140 rfl hsz ?_)
  go_loopw [7] (fun v wr => ∃ k : Nat, k ≤ 10 ∧ v = .int .i64 (k : Nat) ∧ Hid (∀ j x, j < k → l[j]? = some x → (x.1 == t) = false) ∧ wr.heap[w.heap.size]? = some (.cells #[.string ⟨#[]⟩, .int .i64 0, .int .i64 0] 121 (0, 0)) ∧ Below w.heap.size w wr) (fun v _ => 10 - (intOf v).toNat)
  case atStart => exact ⟨0, by omega, by go_num, (fun j x hj => by omega : _), Z0, B0⟩
  case round =>
    clear Z0 B0 hg1
    obtain ⟨k, hk, rfl, hin, Z, B⟩ := hrel
    by_cases hlt : k < 10
    · obtain ⟨x, hx⟩ : ∃ x, l[k]? = some x := ⟨l[k]'(by omega), by simp [hlen, hlt]⟩
      have ix := IX.out k x hx
      have hkI : (k : Int) < 10 := by omega
      have hbl := lt_of_block Z
      have Zn := (Below.heap_alloc wr (.cells #[stv x.1, .int .i64 (x.2.1 : Nat), .int .i64 (x.2.2 : Nat)] 121) _ hbl).trans Z
      have Xn : (wr.alloc (.cells #[stv x.1, .int .i64 (x.2.1 : Nat), .int .i64 (x.2.2 : Nat)] 121)).heap[wr.heap.size]? = _ := heap_alloc_new wr _
      have Bn : Below w.heap.size w (wr.alloc (.cells #[stv x.1, .int .i64 (x.2.1 : Nat), .int .i64 (x.2.2 : Nat)] 121)) := B.alloc B.size _
      by_cases hp : (x.1 == t) = true
      · have fin : l.find? (fun x => x.1 == t) = some x := find_at hx hp hin.out
        have hp1 : (x.1 == t) = true := hp
        clear hin hlen IX hk hx hlt B Z hsz hl
        go_upto_region 5 with fail
        generalize wr.alloc (.cells #[stv x.1, .int .i64 (x.2.1 : Nat), .int .i64 (x.2.2 : Nat)] 121) = w3 at *
        generalize wr.heap.size = b7 at *
        have hbz := Blk.set (w := w3) (o := fun _ => 0) (i := 0) (b := w.heap.size) ⟨Zn, rfl⟩ 0 (.string ⟨x.1.toArray⟩)
        have hbz := hbz.set 1 (.int .i64 (x.2.1 : Nat))
        have hbz := hbz.set 2 (.int .i64 (x.2.2 : Nat))
        have BE := (((Bn.setCell (p := ⟨w.heap.size, 0, none⟩) (Nat.le_refl _) (.string ⟨x.1.toArray⟩)).setCell (p := ⟨w.heap.size, 1, none⟩) (Nat.le_refl _) (.int .i64 (x.2.1 : Nat))).setCell (p := ⟨w.heap.size, 2, none⟩) (Nat.le_refl _) (.int .i64 (x.2.2 : Nat)))
        obtain ⟨u0, u1, u2, -⟩ := Blk.cells3 hbz
        obtain ⟨z0, z1, z2, zf⟩ := Blk.cells3 (o := fun _ => 0) (i := 0) ⟨Zn, rfl⟩
        obtain ⟨y0, y1, y2, yf⟩ := Blk.cells3 (o := fun _ => 0) (i := 0) ⟨Xn, rfl⟩
        clear hbz Zn Xn Bn
        go_wp2
        exact bodyPost_ret (v := .tuple #[.agg #[stv x.1, .int .i64 (x.2.1 : Nat), .int .i64 (x.2.2 : Nat)], .bool true]) (by simp [results, Tryz.results145, go_sem, u0, u1, u2]) rfl ⟨by rw [fin]; rfl, BE⟩
      · have hpf : (x.1 == t) = false := by simpa using hp
        have hin' : Hid (∀ j x, j < k + 1 → l[j]? = some x → (x.1 == t) = false) := fun j y hj hy => by
          by_cases e : j = k
          · subst e
            rw [hx] at hy
            injection hy with hy
            subst hy
            exact hpf
          · exact hin.out j y (by omega) hy
        have hp1 : (x.1 == t) = false := hpf
        all_goals
          clear hin hlen IX hx B Z hsz hl
          go_wp2
          go_roundw
          case rel => (try ((repeat apply Exists.intro); refine ⟨?_, rfl⟩)); exact ⟨k + 1, by omega, by go_num, hin', Zn, Bn⟩
          case measure => simp [intOf]; omega
    · obtain rfl : k = 10 := by omega
      have fin : l.find? (fun x => x.1 == t) = none := find_no fun j y hy => by
        refine hin.out j y ?_ hy
        by_cases hj : j < 10
        · exact hj
        · rw [List.getElem?_eq_none (by omega)] at hy
          cases hy
      clear hin IX hlt hlen hsz hl
      have hbz := Blk.set (w := wr) (o := fun _ => 0) (i := 0) (b := w.heap.size) ⟨Z, rfl⟩ 0 (.string ⟨#[]⟩)
      have hbz := hbz.set 1 (.int .i64 0)
      have hbz := hbz.set 2 (.int .i64 0)
      have BE := (((B.setCell (p := ⟨w.heap.size, 0, none⟩) (Nat.le_refl _) (.string ⟨#[]⟩)).setCell (p := ⟨w.heap.size, 1, none⟩) (Nat.le_refl _) (.int .i64 0)).setCell (p := ⟨w.heap.size, 2, none⟩) (Nat.le_refl _) (.int .i64 0))
      obtain ⟨u0, u1, u2, -⟩ := Blk.cells3 hbz
      obtain ⟨z0, z1, z2, zf⟩ := Blk.cells3 (o := fun _ => 0) (i := 0) ⟨Z, rfl⟩
      clear hbz Z B
      go_wp2
      exact bodyPost_ret (v := .tuple #[.agg #[.string ⟨#[]⟩, .int .i64 0, .int .i64 0], .bool false]) (by simp [results, Tryz.results145, go_sem, u0, u1, u2]) rfl ⟨by rw [fin]; rfl, BE⟩
/-- What is found. -/
def qnF (r : Option (List UInt8 × Nat)) : Value := match r with | some x => .tuple #[.agg #[stv x.1, .int .i64 (x.2 : Nat)], .bool true] | none => .tuple #[.agg #[.string ⟨#[]⟩, .int .i64 0], .bool false]
set_option maxRecDepth 100000 in
set_option maxHeartbeats 1000000 in
theorem quantAt_r (t : List UInt8) (w : World) (hO : QnW w) :
    Calls Tryz.prog 146 #[stv t] w fun e w' => e = .returned (qnF (quantsL.find? (fun x => x.1 == t))) ∧ Below w.heap.size w w' := by
  obtain ⟨tt, fr, hg⟩ := hO
  have IX : Hid (∀ (k : Nat) (x : List UInt8 × Nat), quantsL[k]? = some x → ∀ w : World, (Instr.index 151 (.agg qnA) (.int .i64 (k : Nat))).run Tryz.prog w = .ok (.agg #[stv x.1, .int .i64 (x.2 : Nat)]) w) := fun k x hx w => qnA_at k x hx w
  have hsz := qnInfo
  have hlen : quantsL.length = 6 := rfl
  have B0 : Below w.heap.size w (w.alloc (.cells #[.string ⟨#[]⟩, .int .i64 0] 133)) := (Below.refl _ w).alloc (Nat.le_refl _) _
  have Z0 : (w.alloc (.cells #[.string ⟨#[]⟩, .int .i64 0] 133)).heap[w.heap.size]? = some (.cells #[.string ⟨#[]⟩, .int .i64 0] 133 (0, 0)) := heap_alloc_new w _
  have hg1 := (B0.block _ (lt_of_block hg)).trans hg
  generalize qnA = cs at *
  generalize hl : quantsL = l at *
  clear hg
  go_enter Tryz.func146, Tryz.ntmps146
  go_wp2_with (refine wpList_load_row rfl 151 _ rfl 2 rfl tt _ fr _ hg1 Tryz.underlying151 rfl hsz ?_)
  go_loopw [7] (fun v wr => ∃ k : Nat, k ≤ 6 ∧ v = .int .i64 (k : Nat) ∧ Hid (∀ j x, j < k → l[j]? = some x → (x.1 == t) = false) ∧ wr.heap[w.heap.size]? = some (.cells #[.string ⟨#[]⟩, .int .i64 0] 133 (0, 0)) ∧ Below w.heap.size w wr) (fun v _ => 6 - (intOf v).toNat)
  case atStart => exact ⟨0, by omega, by go_num, (fun j x hj => by omega : _), Z0, B0⟩
  case round =>
    clear Z0 B0 hg1
    obtain ⟨k, hk, rfl, hin, Z, B⟩ := hrel
    by_cases hlt : k < 6
    · obtain ⟨x, hx⟩ : ∃ x, l[k]? = some x := ⟨l[k]'(by omega), by simp [hlen, hlt]⟩
      have ix := IX.out k x hx
      have hkI : (k : Int) < 6 := by omega
      have hbl := lt_of_block Z
      have Zn := (Below.heap_alloc wr (.cells #[stv x.1, .int .i64 (x.2 : Nat)] 133) _ hbl).trans Z
      have Xn : (wr.alloc (.cells #[stv x.1, .int .i64 (x.2 : Nat)] 133)).heap[wr.heap.size]? = _ := heap_alloc_new wr _
      have Bn : Below w.heap.size w (wr.alloc (.cells #[stv x.1, .int .i64 (x.2 : Nat)] 133)) := B.alloc B.size _
      by_cases hp : (x.1 == t) = true
      · have fin : l.find? (fun x => x.1 == t) = some x := find_at hx hp hin.out
        have hp1 : (x.1 == t) = true := hp
        clear hin hlen IX hk hx hlt B Z hsz hl
        go_upto_region 5 with fail
        generalize wr.alloc (.cells #[stv x.1, .int .i64 (x.2 : Nat)] 133) = w3 at *
        generalize wr.heap.size = b7 at *
        have hbz := Blk.set (w := w3) (o := fun _ => 0) (i := 0) (b := w.heap.size) ⟨Zn, rfl⟩ 0 (.string ⟨x.1.toArray⟩)
        have hbz := hbz.set 1 (.int .i64 (x.2 : Nat))
        have BE := ((Bn.setCell (p := ⟨w.heap.size, 0, none⟩) (Nat.le_refl _) (.string ⟨x.1.toArray⟩)).setCell (p := ⟨w.heap.size, 1, none⟩) (Nat.le_refl _) (.int .i64 (x.2 : Nat)))
        obtain ⟨u0, u1, -⟩ := Blk.cells2 hbz
        obtain ⟨z0, z1, zf⟩ := Blk.cells2 (o := fun _ => 0) (i := 0) ⟨Zn, rfl⟩
        obtain ⟨y0, y1, yf⟩ := Blk.cells2 (o := fun _ => 0) (i := 0) ⟨Xn, rfl⟩
        clear hbz Zn Xn Bn
        go_wp2
        exact bodyPost_ret (v := .tuple #[.agg #[stv x.1, .int .i64 (x.2 : Nat)], .bool true]) (by simp [results, Tryz.results146, go_sem, u0, u1]) rfl ⟨by rw [fin]; rfl, BE⟩
      · have hpf : (x.1 == t) = false := by simpa using hp
        have hin' : Hid (∀ j x, j < k + 1 → l[j]? = some x → (x.1 == t) = false) := fun j y hj hy => by
          by_cases e : j = k
          · subst e
            rw [hx] at hy
            injection hy with hy
            subst hy
            exact hpf
          · exact hin.out j y (by omega) hy
        have hp1 : (x.1 == t) = false := hpf
        all_goals
          clear hin hlen IX hx B Z hsz hl
          go_wp2
          go_roundw
          case rel => (try ((repeat apply Exists.intro); refine ⟨?_, rfl⟩)); exact ⟨k + 1, by omega, by go_num, hin', Zn, Bn⟩
          case measure => simp [intOf]; omega
    · obtain rfl : k = 6 := by omega
      have fin : l.find? (fun x => x.1 == t) = none := find_no fun j y hy => by
        refine hin.out j y ?_ hy
        by_cases hj : j < 6
        · exact hj
        · rw [List.getElem?_eq_none (by omega)] at hy
          cases hy
      clear hin IX hlt hlen hsz hl
      have hbz := Blk.set (w := wr) (o := fun _ => 0) (i := 0) (b := w.heap.size) ⟨Z, rfl⟩ 0 (.string ⟨#[]⟩)
      have hbz := hbz.set 1 (.int .i64 0)
      have BE := ((B.setCell (p := ⟨w.heap.size, 0, none⟩) (Nat.le_refl _) (.string ⟨#[]⟩)).setCell (p := ⟨w.heap.size, 1, none⟩) (Nat.le_refl _) (.int .i64 0))
      obtain ⟨u0, u1, -⟩ := Blk.cells2 hbz
      obtain ⟨z0, z1, zf⟩ := Blk.cells2 (o := fun _ => 0) (i := 0) ⟨Z, rfl⟩
      clear hbz Z B
      go_wp2
      exact bodyPost_ret (v := .tuple #[.agg #[.string ⟨#[]⟩, .int .i64 0], .bool false]) (by simp [results, Tryz.results146, go_sem, u0, u1]) rfl ⟨by rw [fin]; rfl, BE⟩
end Go.Proofs.YtafnlhnenmpfoaaGreatDoor
