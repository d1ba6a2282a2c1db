/- The tables of package syntax, and what is found in them by a text. -/
import Derived.Test.YtafnlhnenmpfoaaGreatDoorLexX
import Derived.Deep.MidRow
import Derived.Deep.CutBlock
import Derived.Deep.DeepCutAuto
import Derived.Laws.ResultCell
namespace Go.Proofs.YtafnlhnenmpfoaaGreatDoor
open Go.ChangeShapes Go.WideShapes Go.ChangeAt Go.RowKit
set_option linter.unusedVariables false

/-- What a call of the reader's leaves alone: all old blocks but its own one. -/
structure Keep (rb : Nat) (w w' : World) : Prop where
  os : w'.os = w.os
  tape : w'.tape = w.tape
  output : w'.output = w.output
  size : w.heap.size ≤ w'.heap.size
  block : ∀ k, k < w.heap.size → k ≠ rb → w'.heap[k]? = w.heap[k]?
theorem Keep.refl (rb : Nat) (w : World) : Keep rb w w := ⟨rfl, rfl, rfl, Nat.le_refl _, fun _ _ _ => rfl⟩
theorem Keep.trans {rb : Nat} {a b c : World} (h : Keep rb a b) (k : Keep rb b c) : Keep rb a c :=
  ⟨k.os.trans h.os, k.tape.trans h.tape, k.output.trans h.output, Nat.le_trans h.size k.size, fun i hi hn => (k.block i (Nat.lt_of_lt_of_le hi h.size) hn).trans (h.block i hi hn)⟩
theorem Keep.ofBelow {rb : Nat} {w w' : World} (h : Below w.heap.size w w') : Keep rb w w' := ⟨h.os, h.tape, h.output, h.size, fun k hk _ => h.block k hk⟩
theorem Keep.alloc {rb : Nat} {a w : World} (h : Keep rb a w) (ob : Obj) : Keep rb a (w.alloc ob) :=
  h.trans ⟨rfl, rfl, rfl, by simp, fun k hk _ => Below.heap_alloc w ob k hk⟩
theorem Keep.drew {rb : Nat} {a w : World} (h : Keep rb a w) : Keep rb a w.drew := ⟨h.os, h.tape, h.output, h.size, h.block⟩
theorem Keep.set {rb : Nat} {a w : World} (h : Keep rb a w) (p : Addr) (u : Value) (hp : a.heap.size ≤ p.block ∨ p.block = rb) : Keep rb a (w.setCell p u) :=
  ⟨h.os, h.tape, h.output, by simpa using h.size, fun k hk hn => (heap_setCell_other w p k u (fun e => by
    rcases hp with hp | hp
    · omega
    · exact hn (e.trans hp))).trans (h.block k hk hn)⟩
theorem Keep.below {rb n : Nat} {w w' : World} (h : Keep rb w w') (hn : n ≤ rb) (hs : rb < w.heap.size) : Below n w w' := ⟨h.os, h.tape, h.output, h.size, fun k hk => h.block k (by omega) (by omega)⟩
theorem Keep.cell {rb : Nat} {w w' : World} (h : Keep rb w w') {b : Nat} (hb : b < w.heap.size) (hn : b ≠ rb) (j : Nat) : w'.cell? ⟨b, j, none⟩ = w.cell? ⟨b, j, none⟩ := World.cell?_of_block (a := ⟨b, j, none⟩) (h.block b hb hn)
theorem Keep.frozen {rb : Nat} {w w' : World} (h : Keep rb w w') {b : Nat} (hb : b < w.heap.size) (hn : b ≠ rb) (j : Nat) : w'.frozen? ⟨b, j, none⟩ = w.frozen? ⟨b, j, none⟩ := World.frozen?_of_block (a := ⟨b, j, none⟩) (h.block b hb hn)

/-- A text as a value. -/
abbrev stv (t : List UInt8) : Value := .string ⟨t.toArray⟩
/-- The cells of trees in a row; all that lies below them lies in blocks of P. -/
def Fc (w : World) (P : Nat → Prop) : Fs → List Value → Prop
  | ⟨none⟩, xs => xs = []
  | ⟨some ⟨k, n, nm, a, ks, r⟩⟩, xs => ∃ ao cap ys, xs = .int .i64 k :: .int .i64 n :: stv nm :: .slice ao ks.len cap :: .int .i64 a :: ys ∧
      (ks = .nil ∨ ∃ b off zs, ao = some ⟨b, off, none⟩ ∧ P b ∧ b < w.heap.size ∧ (∀ j u, zs[j]? = some u → w.cell? ⟨b, off + j, none⟩ = some u) ∧ Fc w P ks zs) ∧ Fc w P r ys
/-- A slice of trees. -/
def Sl (w : World) (P : Nat → Prop) (ks : Fs) (ao : Option Addr) : Prop :=
  ks = .nil ∨ ∃ b off zs, ao = some ⟨b, off, none⟩ ∧ P b ∧ b < w.heap.size ∧ (∀ j u, zs[j]? = some u → w.cell? ⟨b, off + j, none⟩ = some u) ∧ Fc w P ks zs
/-- The value of a tree. -/
def exV (e : Ex) (ao : Option Addr) (cap : Nat) : Value := .agg #[.int .i64 e.k, .int .i64 e.n, stv e.nm, .slice ao e.kids.len cap, .int .i64 e.a]
theorem Fc.len {w : World} {P : Nat → Prop} : ∀ {f : Fs} {xs : List Value}, Fc w P f xs → xs.length = f.len * 5
  | ⟨none⟩, xs, h => by
    have h : xs = [] := h
    subst h
    rfl
  | ⟨some ⟨k, n, nm, a, ks, r⟩⟩, xs, h => by
    obtain ⟨ao, cap, ys, rfl, _, h2⟩ := h
    have := Fc.len h2
    simp only [List.length_cons, Fs.len]
    omega
theorem Fc.mono {w w' : World} {P Q : Nat → Prop} (hb : ∀ k, P k → k < w.heap.size → w'.heap[k]? = w.heap[k]?) (hs : w.heap.size ≤ w'.heap.size) (hq : ∀ k, P k → k < w.heap.size → Q k) : ∀ {f : Fs} {xs : List Value}, Fc w P f xs → Fc w' Q f xs
  | ⟨none⟩, xs, h => h
  | ⟨some ⟨k, n, nm, a, ks, r⟩⟩, xs, h => by
    obtain ⟨ao, cap, ys, rfl, h1, h2⟩ := h
    refine ⟨ao, cap, ys, rfl, ?_, Fc.mono hb hs hq h2⟩
    rcases h1 with h1 | ⟨b, off, zs, rfl, hp, hlt, hc, h3⟩
    · exact .inl h1
    · exact .inr ⟨b, off, zs, rfl, hq b hp hlt, Nat.lt_of_lt_of_le hlt hs, fun j u hu => (World.cell?_of_block (a := ⟨b, off + j, none⟩) (hb b hp hlt)).trans (hc j u hu), Fc.mono hb hs hq h3⟩
theorem Sl.mono {w w' : World} {P Q : Nat → Prop} {f : Fs} {ao : Option Addr} (hb : ∀ k, P k → k < w.heap.size → w'.heap[k]? = w.heap[k]?) (hs : w.heap.size ≤ w'.heap.size) (hq : ∀ k, P k → k < w.heap.size → Q k) (h : Sl w P f ao) : Sl w' Q f ao := by
  rcases h with h | ⟨b, off, zs, rfl, hp, hlt, hc, h3⟩
  · exact .inl h
  · exact .inr ⟨b, off, zs, rfl, hq b hp hlt, Nat.lt_of_lt_of_le hlt hs, fun j u hu => (World.cell?_of_block (a := ⟨b, off + j, none⟩) (hb b hp hlt)).trans (hc j u hu), h3.mono hb hs hq⟩
/-- Blocks behind the reader's. -/
abbrev Past (rb : Nat) : Nat → Prop := fun b => rb < b
theorem Fc.keep {rb : Nat} {w w' : World} {f : Fs} {xs : List Value} (h : Fc w (Past rb) f xs) (k : Keep rb w w') : Fc w' (Past rb) f xs := h.mono (fun i hp hl => k.block i hl (Nat.ne_of_gt hp)) k.size (fun _ h _ => h)
theorem Sl.keep {rb : Nat} {w w' : World} {f : Fs} {ao : Option Addr} (h : Sl w (Past rb) f ao) (k : Keep rb w w') : Sl w' (Past rb) f ao := h.mono (fun i hp hl => k.block i hl (Nat.ne_of_gt hp)) k.size (fun _ h _ => h)
theorem Fc.app {w : World} {P : Nat → Prop} : ∀ {f g : Fs} {xs ys : List Value}, Fc w P f xs → Fc w P g ys → Fc w P (f.app g) (xs ++ ys)
  | ⟨none⟩, g, xs, ys, h, k => by
    have h : xs = [] := h
    subst h
    exact k
  | ⟨some ⟨i, n, nm, a, ks, r⟩⟩, g, xs, ys, h, k => by
    obtain ⟨ao, cap, zs, rfl, h1, h2⟩ := h
    exact ⟨ao, cap, zs ++ ys, rfl, h1, Fc.app h2 k⟩
theorem Fc.one {w : World} {P : Nat → Prop} {e : Ex} {ao : Option Addr} (cap : Nat) (h : Sl w P e.kids ao) : Fc w P (one e) [.int .i64 e.k, .int .i64 e.n, stv e.nm, .slice ao e.kids.len cap, .int .i64 e.a] := ⟨ao, cap, [], rfl, h, rfl⟩
theorem Sl.of {w : World} {P : Nat → Prop} {f : Fs} {b : Nat} {xs : List Value} (hp : P b) (hlt : b < w.heap.size) (hc : ∀ j u, xs[j]? = some u → w.cell? ⟨b, 0 + j, none⟩ = some u) (h : Fc w P f xs) : Sl w P f (some ⟨b, 0, none⟩) := .inr ⟨b, 0, xs, rfl, hp, hlt, hc, h⟩
theorem Sl.nil (w : World) (P : Nat → Prop) (ao : Option Addr) : Sl w P .nil ao := .inl rfl

/-- The reader in memory: what comes next, what is open. -/
def RdS (w : World) (rb o q : Nat) (ts : List Tk) : Prop :=
  ∃ g cap all i, w.heap[rb]? = some (.cells #[.slice (some ⟨g, 0, none⟩) (all : List Tk).length cap, .int .i64 ((i : Nat) : Int), .int .i64 (o : Nat), .int .i64 (q : Nat)] 81 (0, 0)) ∧ g + 3 < rb ∧ (∀ j u, (tcells all)[j]? = some u → w.cell? ⟨g, j, none⟩ = some u) ∧ all.drop i = ts ∧ i ≤ all.length ∧ all.length ≤ 3000 ∧ all.length ≤ cap ∧ cap ≤ maxLen
theorem RdS.lt {w : World} {rb o q : Nat} {ts : List Tk} (h : RdS w rb o q ts) : rb < w.heap.size := by
  obtain ⟨g, cap, all, i, h1, _⟩ := h
  exact lt_of_block h1
/-- Steps that leave the reader alone. -/
theorem RdS.below {w w' : World} {rb o q : Nat} {ts : List Tk} (h : RdS w rb o q ts) (b : Below w.heap.size w w') : RdS w' rb o q ts := by
  have hlt := h.lt
  obtain ⟨g, cap, all, i, h1, h2, h4, h5⟩ := h
  exact ⟨g, cap, all, i, (b.block rb hlt).trans h1, h2, fun j u hu => (b.cell (p := ⟨g, j, none⟩) (show g < w.heap.size by omega)).trans (h4 j u hu), h5⟩
/-- A store behind the reader. -/
theorem RdS.set {w : World} {rb o q : Nat} {ts : List Tk} (h : RdS w rb o q ts) (p : Addr) (v : Value) (hp : rb < p.block) : RdS (w.setCell p v) rb o q ts := by
  obtain ⟨g, cap, all, i, h1, h2, h4, h5⟩ := h
  exact ⟨g, cap, all, i, (heap_setCell_other w p rb v (by omega)).trans h1, h2, fun j u hu => (World.cell?_of_block (a := ⟨g, j, none⟩) (heap_setCell_other w p g v (by omega))).trans (h4 j u hu), h5⟩
theorem RdS.alloc {w : World} {rb o q : Nat} {ts : List Tk} (h : RdS w rb o q ts) (ob : Obj) : RdS (w.alloc ob) rb o q ts := h.below ((Below.refl _ w).alloc (Nat.le_refl _) ob)
theorem tkcells_at : ∀ (l : List Tk) (i : Nat) (x : Tk), l[i]? = some x → (tcells l)[i * 4]? = some (.int .i64 (x.k : Nat)) ∧ (tcells l)[i * 4 + 1]? = some (.int .i64 x.n) ∧ (tcells l)[i * 4 + 2]? = some (stv x.t) ∧ (tcells l)[i * 4 + 3]? = some (.int .i64 (x.a : Nat))
  | [], i, x, h => by simp at h
  | p :: r, 0, x, h => by
    simp at h
    subst h
    exact ⟨rfl, rfl, rfl, rfl⟩
  | p :: r, i + 1, x, h => by
    have e : tcells (p :: r) = .int .i64 (p.k : Nat) :: .int .i64 p.n :: stv p.t :: .int .i64 (p.a : Nat) :: tcells r := rfl
    have e1 : (i + 1) * 4 = i * 4 + 1 + 1 + 1 + 1 := by omega
    have ih := tkcells_at r i x (by simpa using h)
    rw [e, e1]
    exact ih
/-- Blocks that are new since. -/
abbrev Nw (n : Nat) : Nat → Prop := fun b => n ≤ b
theorem Sl.keepN {rb n : Nat} {w w' : World} {f : Fs} {ao : Option Addr} (h : Sl w (Nw n) f ao) (k : Keep rb w w') (hn : rb < n) : Sl w' (Nw n) f ao := h.mono (fun i hp hl => k.block i hl (by have hp : n ≤ i := hp; omega)) k.size (fun _ h _ => h)
theorem Sl.setN {n : Nat} {w : World} {f : Fs} {ao : Option Addr} (h : Sl w (Nw n) f ao) (p : Addr) (v : Value) (hp : p.block < n) : Sl (w.setCell p v) (Nw n) f ao := h.mono (fun i hp hl => heap_setCell_other w p i v (by have hp : n ≤ i := hp; omega)) (by simp) (fun _ h _ => h)
theorem Sl.allocN {n : Nat} {w : World} {f : Fs} {ao : Option Addr} (h : Sl w (Nw n) f ao) (ob : Obj) : Sl (w.alloc ob) (Nw n) f ao := h.mono (fun i hp hl => Below.heap_alloc w ob i hl) (by simp) (fun _ h _ => h)
theorem Sl.low {n m : Nat} {w : World} {f : Fs} {ao : Option Addr} (h : Sl w (Nw n) f ao) (hm : m ≤ n) : Sl w (Nw m) f ao := h.mono (fun i hp hl => rfl) (Nat.le_refl _) (fun i h _ => Nat.le_trans hm h)
theorem Fc.low {n m : Nat} {w : World} {f : Fs} {xs : List Value} (h : Fc w (Nw n) f xs) (hm : m ≤ n) : Fc w (Nw m) f xs := h.mono (fun i hp hl => rfl) (Nat.le_refl _) (fun i h _ => Nat.le_trans hm h)
theorem Fc.allocN {n : Nat} {w : World} {f : Fs} {xs : List Value} (h : Fc w (Nw n) f xs) (ob : Obj) : Fc (w.alloc ob) (Nw n) f xs := h.mono (fun i hp hl => Below.heap_alloc w ob i hl) (by simp) (fun _ h _ => h)
theorem Fc.setN {n : Nat} {w : World} {f : Fs} {xs : List Value} (h : Fc w (Nw n) f xs) (p : Addr) (v : Value) (hp : p.block < n) : Fc (w.setCell p v) (Nw n) f xs := h.mono (fun i hp hl => heap_setCell_other w p i v (by have hp : n ≤ i := hp; omega)) (by simp) (fun _ h _ => h)
theorem Fc.keepN {rb n : Nat} {w w' : World} {f : Fs} {xs : List Value} (h : Fc w (Nw n) f xs) (k : Keep rb w w') (hn : rb < n) : Fc w' (Nw n) f xs := h.mono (fun i hp hl => k.block i hl (by have hp : n ≤ i := hp; omega)) k.size (fun _ h _ => h)
end Go.Proofs.YtafnlhnenmpfoaaGreatDoor
namespace Go.Proofs.YtafnlhnenmpfoaaGreatDoor
open Go.ChangeShapes Go.WideShapes Go.ChangeAt Go.RowKit
set_option linter.unusedVariables false

theorem Blk.cells5 {w : World} {o : Nat → Nat} {i b : Nat} {a0 a1 a2 a3 a4 : Value} {t : TypeId} (h : Blk w o i b (.cells #[a0, a1, a2, a3, a4] t (0, 0))) :
    w.cell? ⟨b, 0, none⟩ = some a0 ∧ w.cell? ⟨b, 1, none⟩ = some a1 ∧ w.cell? ⟨b, 2, none⟩ = some a2 ∧ w.cell? ⟨b, 3, none⟩ = some a3 ∧ w.cell? ⟨b, 4, none⟩ = some a4 ∧ ∀ j, w.frozen? ⟨b, j, none⟩ = false := by
  refine ⟨?_, ?_, ?_, ?_, ?_, fun j => frozen_of_row w b j _ t h.1⟩ <;> simp [cell_of_row w b _ _ t (0, 0) h.1]
theorem Blk.cells2 {w : World} {o : Nat → Nat} {i b : Nat} {a0 a1 : Value} {t : TypeId} (h : Blk w o i b (.cells #[a0, a1] t (0, 0))) :
    w.cell? ⟨b, 0, none⟩ = some a0 ∧ w.cell? ⟨b, 1, none⟩ = some a1 ∧ ∀ j, w.frozen? ⟨b, j, none⟩ = false := by
  refine ⟨?_, ?_, fun j => frozen_of_row w b j _ t h.1⟩ <;> simp [cell_of_row w b _ _ t (0, 0) h.1]
theorem find_at {α : Type} {p : α → Bool} : ∀ {l : List α} {k : Nat} {x : α}, l[k]? = some x → p x = true → (∀ (j : Nat) (y : α), j < k → l[j]? = some y → p y = false) → l.find? p = some x
  | [], k, x, h, _, _ => by simp at h
  | a :: l, 0, x, h, hp, _ => by
    simp at h
    subst h
    simp [hp]
  | a :: l, k + 1, x, h, hp, hn => by
    have h0 := hn 0 a (by omega) rfl
    rw [List.find?_cons, h0]
    exact find_at (by simpa using h) hp (fun j y hj hy => hn (j + 1) y (by omega) (by simpa using hy))
theorem find_no {α : Type} {p : α → Bool} {l : List α} (hn : ∀ (j : Nat) (y : α), l[j]? = some y → p y = false) : l.find? p = none := by
  rw [List.find?_eq_none]
  intro x hx
  obtain ⟨j, hj⟩ := List.getElem?_of_mem hx
  simp [hn j x hj]
def opA : Array Value := #[stv [111, 114], .int .i64 18, .int .i64 1, .int .i64 1, .int .i64 2, stv [97, 110, 100], .int .i64 17, .int .i64 2, .int .i64 2, .int .i64 3, stv [61], .int .i64 13, .int .i64 4, .int .i64 5, .int .i64 5, stv [33, 61], .int .i64 14, .int .i64 4, .int .i64 5, .int .i64 5, stv [60], .int .i64 15, .int .i64 4, .int .i64 5, .int .i64 5, stv [60, 61], .int .i64 16, .int .i64 4, .int .i64 5, .int .i64 5, stv [43], .int .i64 8, .int .i64 5, .int .i64 5, .int .i64 6, stv [45], .int .i64 9, .int .i64 5, .int .i64 5, .int .i64 6, stv [42], .int .i64 10, .int .i64 6, .int .i64 6, .int .i64 7, stv [47], .int .i64 11, .int .i64 6, .int .i64 6, .int .i64 7, stv [37], .int .i64 12, .int .i64 6, .int .i64 6, .int .i64 7]
/-- The table lies in memory as the program's text lays it. -/
def OpW (w : World) : Prop := ∃ t fr, w.heap[3]? = some (.cells opA t fr)
theorem OpW.lt {w : World} (h : OpW w) : 3 < w.heap.size := by
  obtain ⟨t, fr, h⟩ := h
  exact lt_of_block h
theorem OpW.below {w w' : World} (h : OpW w) (b : Below w.heap.size w w') : OpW w' := by
  have hl := h.lt
  obtain ⟨t, fr, h⟩ := h
  exact ⟨t, fr, (b.block _ hl).trans h⟩
theorem opInfo : (Tryz.prog.info? 152).map (·.size) = some opA.size := by kernel_rfl
theorem opix0 (w : World) : (Instr.index 152 (.agg opA) (.int .i64 0)).run Tryz.prog w = .ok (.agg #[stv [111, 114], .int .i64 18, .int .i64 1, .int .i64 1, .int .i64 2]) w := by kernel_rfl
theorem opix1 (w : World) : (Instr.index 152 (.agg opA) (.int .i64 1)).run Tryz.prog w = .ok (.agg #[stv [97, 110, 100], .int .i64 17, .int .i64 2, .int .i64 2, .int .i64 3]) w := by kernel_rfl
theorem opix2 (w : World) : (Instr.index 152 (.agg opA) (.int .i64 2)).run Tryz.prog w = .ok (.agg #[stv [61], .int .i64 13, .int .i64 4, .int .i64 5, .int .i64 5]) w := by kernel_rfl
theorem opix3 (w : World) : (Instr.index 152 (.agg opA) (.int .i64 3)).run Tryz.prog w = .ok (.agg #[stv [33, 61], .int .i64 14, .int .i64 4, .int .i64 5, .int .i64 5]) w := by kernel_rfl
theorem opix4 (w : World) : (Instr.index 152 (.agg opA) (.int .i64 4)).run Tryz.prog w = .ok (.agg #[stv [60], .int .i64 15, .int .i64 4, .int .i64 5, .int .i64 5]) w := by kernel_rfl
theorem opix5 (w : World) : (Instr.index 152 (.agg opA) (.int .i64 5)).run Tryz.prog w = .ok (.agg #[stv [60, 61], .int .i64 16, .int .i64 4, .int .i64 5, .int .i64 5]) w := by kernel_rfl
theorem opix6 (w : World) : (Instr.index 152 (.agg opA) (.int .i64 6)).run Tryz.prog w = .ok (.agg #[stv [43], .int .i64 8, .int .i64 5, .int .i64 5, .int .i64 6]) w := by kernel_rfl
theorem opix7 (w : World) : (Instr.index 152 (.agg opA) (.int .i64 7)).run Tryz.prog w = .ok (.agg #[stv [45], .int .i64 9, .int .i64 5, .int .i64 5, .int .i64 6]) w := by kernel_rfl
theorem opix8 (w : World) : (Instr.index 152 (.agg opA) (.int .i64 8)).run Tryz.prog w = .ok (.agg #[stv [42], .int .i64 10, .int .i64 6, .int .i64 6, .int .i64 7]) w := by kernel_rfl
theorem opix9 (w : World) : (Instr.index 152 (.agg opA) (.int .i64 9)).run Tryz.prog w = .ok (.agg #[stv [47], .int .i64 11, .int .i64 6, .int .i64 6, .int .i64 7]) w := by kernel_rfl
theorem opix10 (w : World) : (Instr.index 152 (.agg opA) (.int .i64 10)).run Tryz.prog w = .ok (.agg #[stv [37], .int .i64 12, .int .i64 6, .int .i64 6, .int .i64 7]) w := by kernel_rfl
theorem opA_at (k : Nat) (x : List UInt8 × Nat × Nat × Nat × Nat) (hx : opsL[k]? = some x) (w : World) : (Instr.index 152 (.agg opA) (.int .i64 (k : Nat))).run Tryz.prog w = .ok (.agg #[stv x.1, .int .i64 (x.2.1 : Nat), .int .i64 (x.2.2.1 : Nat), .int .i64 (x.2.2.2.1 : Nat), .int .i64 (x.2.2.2.2 : Nat)]) w := by
  match k, hx with
  | 0, hx => simp [opsL] at hx; subst hx; exact opix0 w
  | 1, hx => simp [opsL] at hx; subst hx; exact opix1 w
  | 2, hx => simp [opsL] at hx; subst hx; exact opix2 w
  | 3, hx => simp [opsL] at hx; subst hx; exact opix3 w
  | 4, hx => simp [opsL] at hx; subst hx; exact opix4 w
  | 5, hx => simp [opsL] at hx; subst hx; exact opix5 w
  | 6, hx => simp [opsL] at hx; subst hx; exact opix6 w
  | 7, hx => simp [opsL] at hx; subst hx; exact opix7 w
  | 8, hx => simp [opsL] at hx; subst hx; exact opix8 w
  | 9, hx => simp [opsL] at hx; subst hx; exact opix9 w
  | 10, hx => simp [opsL] at hx; subst hx; exact opix10 w
  | k + 11, hx => simp [opsL] at hx
def clA : Array Value := #[stv [99, 111, 110, 110, 101, 99, 116, 101, 100], .int .i64 1, .int .i64 2, stv [98, 108, 111, 99, 107], .int .i64 2, .int .i64 2, stv [98, 111, 116, 116, 108, 101, 110, 101, 99, 107], .int .i64 3, .int .i64 2, stv [115, 105, 122, 101], .int .i64 4, .int .i64 1, stv [116, 111, 116, 97, 108], .int .i64 5, .int .i64 1, stv [108, 101, 97, 115, 116], .int .i64 6, .int .i64 1, stv [109, 111, 115, 116], .int .i64 7, .int .i64 1, stv [118, 97, 108, 117, 101], .int .i64 8, .int .i64 1, stv [100, 101, 103, 114, 101, 101], .int .i64 9, .int .i64 1, stv [114, 101, 112], .int .i64 10, .int .i64 1]
/-- The table lies in memory as the program's text lays it. -/
def ClW (w : World) : Prop := ∃ t fr, w.heap[0]? = some (.cells clA t fr)
theorem ClW.lt {w : World} (h : ClW w) : 0 < w.heap.size := by
  obtain ⟨t, fr, h⟩ := h
  exact lt_of_block h
theorem ClW.below {w w' : World} (h : ClW w) (b : Below w.heap.size w w') : ClW w' := by
  have hl := h.lt
  obtain ⟨t, fr, h⟩ := h
  exact ⟨t, fr, (b.block _ hl).trans h⟩
theorem clInfo : (Tryz.prog.info? 140).map (·.size) = some clA.size := by kernel_rfl
theorem clix0 (w : World) : (Instr.index 140 (.agg clA) (.int .i64 0)).run Tryz.prog w = .ok (.agg #[stv [99, 111, 110, 110, 101, 99, 116, 101, 100], .int .i64 1, .int .i64 2]) w := by kernel_rfl
theorem clix1 (w : World) : (Instr.index 140 (.agg clA) (.int .i64 1)).run Tryz.prog w = .ok (.agg #[stv [98, 108, 111, 99, 107], .int .i64 2, .int .i64 2]) w := by kernel_rfl
theorem clix2 (w : World) : (Instr.index 140 (.agg clA) (.int .i64 2)).run Tryz.prog w = .ok (.agg #[stv [98, 111, 116, 116, 108, 101, 110, 101, 99, 107], .int .i64 3, .int .i64 2]) w := by kernel_rfl
theorem clix3 (w : World) : (Instr.index 140 (.agg clA) (.int .i64 3)).run Tryz.prog w = .ok (.agg #[stv [115, 105, 122, 101], .int .i64 4, .int .i64 1]) w := by kernel_rfl
theorem clix4 (w : World) : (Instr.index 140 (.agg clA) (.int .i64 4)).run Tryz.prog w = .ok (.agg #[stv [116, 111, 116, 97, 108], .int .i64 5, .int .i64 1]) w := by kernel_rfl
theorem clix5 (w : World) : (Instr.index 140 (.agg clA) (.int .i64 5)).run Tryz.prog w = .ok (.agg #[stv [108, 101, 97, 115, 116], .int .i64 6, .int .i64 1]) w := by kernel_rfl
theorem clix6 (w : World) : (Instr.index 140 (.agg clA) (.int .i64 6)).run Tryz.prog w = .ok (.agg #[stv [109, 111, 115, 116], .int .i64 7, .int .i64 1]) w := by kernel_rfl
theorem clix7 (w : World) : (Instr.index 140 (.agg clA) (.int .i64 7)).run Tryz.prog w = .ok (.agg #[stv [118, 97, 108, 117, 101], .int .i64 8, .int .i64 1]) w := by kernel_rfl
theorem clix8 (w : World) : (Instr.index 140 (.agg clA) (.int .i64 8)).run Tryz.prog w = .ok (.agg #[stv [100, 101, 103, 114, 101, 101], .int .i64 9, .int .i64 1]) w := by kernel_rfl
theorem clix9 (w : World) : (Instr.index 140 (.agg clA) (.int .i64 9)).run Tryz.prog w = .ok (.agg #[stv [114, 101, 112], .int .i64 10, .int .i64 1]) w := by kernel_rfl
theorem clA_at (k : Nat) (x : List UInt8 × Nat × Nat) (hx : callsL[k]? = some x) (w : World) : (Instr.index 140 (.agg clA) (.int .i64 (k : Nat))).run Tryz.prog w = .ok (.agg #[stv x.1, .int .i64 (x.2.1 : Nat), .int .i64 (x.2.2 : Nat)]) w := by
  match k, hx with
  | 0, hx => simp [callsL] at hx; subst hx; exact clix0 w
  | 1, hx => simp [callsL] at hx; subst hx; exact clix1 w
  | 2, hx => simp [callsL] at hx; subst hx; exact clix2 w
  | 3, hx => simp [callsL] at hx; subst hx; exact clix3 w
  | 4, hx => simp [callsL] at hx; subst hx; exact clix4 w
  | 5, hx => simp [callsL] at hx; subst hx; exact clix5 w
  | 6, hx => simp [callsL] at hx; subst hx; exact clix6 w
  | 7, hx => simp [callsL] at hx; subst hx; exact clix7 w
  | 8, hx => simp [callsL] at hx; subst hx; exact clix8 w
  | 9, hx => simp [callsL] at hx; subst hx; exact clix9 w
  | k + 10, hx => simp [callsL] at hx
def qnA : Array Value := #[stv [97, 108, 108], .int .i64 1, stv [115, 111, 109, 101], .int .i64 2, stv [99, 111, 117, 110, 116], .int .i64 3, stv [115, 117, 109], .int .i64 4, stv [109, 105, 110], .int .i64 5, stv [109, 97, 120], .int .i64 6]
/-- The table lies in memory as the program's text lays it. -/
def QnW (w : World) : Prop := ∃ t fr, w.heap[2]? = some (.cells qnA t fr)
theorem QnW.lt {w : World} (h : QnW w) : 2 < w.heap.size := by
  obtain ⟨t, fr, h⟩ := h
  exact lt_of_block h
theorem QnW.below {w w' : World} (h : QnW w) (b : Below w.heap.size w w') : QnW w' := by
  have hl := h.lt
  obtain ⟨t, fr, h⟩ := h
  exact ⟨t, fr, (b.block _ hl).trans h⟩
theorem qnInfo : (Tryz.prog.info? 151).map (·.size) = some qnA.size := by kernel_rfl
theorem qnix0 (w : World) : (Instr.index 151 (.agg qnA) (.int .i64 0)).run Tryz.prog w = .ok (.agg #[stv [97, 108, 108], .int .i64 1]) w := by kernel_rfl
theorem qnix1 (w : World) : (Instr.index 151 (.agg qnA) (.int .i64 1)).run Tryz.prog w = .ok (.agg #[stv [115, 111, 109, 101], .int .i64 2]) w := by kernel_rfl
theorem qnix2 (w : World) : (Instr.index 151 (.agg qnA) (.int .i64 2)).run Tryz.prog w = .ok (.agg #[stv [99, 111, 117, 110, 116], .int .i64 3]) w := by kernel_rfl
theorem qnix3 (w : World) : (Instr.index 151 (.agg qnA) (.int .i64 3)).run Tryz.prog w = .ok (.agg #[stv [115, 117, 109], .int .i64 4]) w := by kernel_rfl
theorem qnix4 (w : World) : (Instr.index 151 (.agg qnA) (.int .i64 4)).run Tryz.prog w = .ok (.agg #[stv [109, 105, 110], .int .i64 5]) w := by kernel_rfl
theorem qnix5 (w : World) : (Instr.index 151 (.agg qnA) (.int .i64 5)).run Tryz.prog w = .ok (.agg #[stv [109, 97, 120], .int .i64 6]) w := by kernel_rfl
theorem qnA_at (k : Nat) (x : List UInt8 × Nat) (hx : quantsL[k]? = some x) (w : World) : (Instr.index 151 (.agg qnA) (.int .i64 (k : Nat))).run Tryz.prog w = .ok (.agg #[stv x.1, .int .i64 (x.2 : Nat)]) w := by
  match k, hx with
  | 0, hx => simp [quantsL] at hx; subst hx; exact qnix0 w
  | 1, hx => simp [quantsL] at hx; subst hx; exact qnix1 w
  | 2, hx => simp [quantsL] at hx; subst hx; exact qnix2 w
  | 3, hx => simp [quantsL] at hx; subst hx; exact qnix3 w
  | 4, hx => simp [quantsL] at hx; subst hx; exact qnix4 w
  | 5, hx => simp [quantsL] at hx; subst hx; exact qnix5 w
  | k + 6, hx => simp [quantsL] at hx
/-- What is found. -/
def opF (r : Option (List UInt8 × Nat × Nat × Nat × Nat)) : Value := match r with | some x => .tuple #[.agg #[stv x.1, .int .i64 (x.2.1 : Nat), .int .i64 (x.2.2.1 : Nat), .int .i64 (x.2.2.2.1 : Nat), .int .i64 (x.2.2.2.2 : Nat)], .bool true] | none => .tuple #[.agg #[.string ⟨#[]⟩, .int .i64 0, .int .i64 0, .int .i64 0, .int .i64 0], .bool false]
/-- What is found. -/
def clF (r : Option (List UInt8 × Nat × Nat)) : Value := match r with | some x => .tuple #[.agg #[stv x.1, .int .i64 (x.2.1 : Nat), .int .i64 (x.2.2 : Nat)], .bool true] | none => .tuple #[.agg #[.string ⟨#[]⟩, .int .i64 0, .int .i64 0], .bool false]
/-- What is found. -/
def qnF (r : Option (List UInt8 × Nat)) : Value := match r with | some x => .tuple #[.agg #[stv x.1, .int .i64 (x.2 : Nat)], .bool true] | none => .tuple #[.agg #[.string ⟨#[]⟩, .int .i64 0], .bool false]
end Go.Proofs.YtafnlhnenmpfoaaGreatDoor
