/- Trees and the reader in memory. -/
import Derived.Test.YtfpmaeflmboalaaGreatDoorSynR
import Derived.Test.YtfpmaeflmboalaaGreatDoorLexX
import Derived.Test.YtfpmaeflmboalaaGreatDoorArBase
namespace Go.Proofs.YtfpmaeflmboalaaGreatDoor
open Go.ChangeShapes Go.WideShapes Go.ChangeAt Go.RowKit
set_option linter.unusedVariables false

/-- What a call of the reader's leaves alone: all old blocks but its own one. -/
structure Keep (rb : Nat) (w w' : World) : Prop where
  os : w'.os = w.os
  tape : w'.tape = w.tape
  output : w'.output = w.output
  size : w.heap.size ≤ w'.heap.size
  block : ∀ k, k < w.heap.size → k ≠ rb → w'.heap[k]? = w.heap[k]?
theorem Keep.refl (rb : Nat) (w : World) : Keep rb w w := ⟨rfl, rfl, rfl, Nat.le_refl _, fun _ _ _ => rfl⟩
theorem Keep.trans {rb : Nat} {a b c : World} (h : Keep rb a b) (k : Keep rb b c) : Keep rb a c :=
  ⟨k.os.trans h.os, k.tape.trans h.tape, k.output.trans h.output, Nat.le_trans h.size k.size, fun i hi hn => (k.block i (Nat.lt_of_lt_of_le hi h.size) hn).trans (h.block i hi hn)⟩
theorem Keep.ofBelow {rb : Nat} {w w' : World} (h : Below w.heap.size w w') : Keep rb w w' := ⟨h.os, h.tape, h.output, h.size, fun k hk _ => h.block k hk⟩
theorem Keep.alloc {rb : Nat} {a w : World} (h : Keep rb a w) (ob : Obj) : Keep rb a (w.alloc ob) :=
  h.trans ⟨rfl, rfl, rfl, by simp, fun k hk _ => Below.heap_alloc w ob k hk⟩
theorem Keep.drew {rb : Nat} {a w : World} (h : Keep rb a w) : Keep rb a w.drew := ⟨h.os, h.tape, h.output, h.size, h.block⟩
theorem Keep.set {rb : Nat} {a w : World} (h : Keep rb a w) (p : Addr) (u : Value) (hp : a.heap.size ≤ p.block ∨ p.block = rb) : Keep rb a (w.setCell p u) :=
  ⟨h.os, h.tape, h.output, by simpa using h.size, fun k hk hn => (heap_setCell_other w p k u (fun e => by
    rcases hp with hp | hp
    · omega
    · exact hn (e.trans hp))).trans (h.block k hk hn)⟩
theorem Keep.below {rb n : Nat} {w w' : World} (h : Keep rb w w') (hn : n ≤ rb) (hs : rb < w.heap.size) : Below n w w' := ⟨h.os, h.tape, h.output, h.size, fun k hk => h.block k (by omega) (by omega)⟩
theorem Keep.cell {rb : Nat} {w w' : World} (h : Keep rb w w') {b : Nat} (hb : b < w.heap.size) (hn : b ≠ rb) (j : Nat) : w'.cell? ⟨b, j, none⟩ = w.cell? ⟨b, j, none⟩ := World.cell?_of_block (a := ⟨b, j, none⟩) (h.block b hb hn)
theorem Keep.frozen {rb : Nat} {w w' : World} (h : Keep rb w w') {b : Nat} (hb : b < w.heap.size) (hn : b ≠ rb) (j : Nat) : w'.frozen? ⟨b, j, none⟩ = w.frozen? ⟨b, j, none⟩ := World.frozen?_of_block (a := ⟨b, j, none⟩) (h.block b hb hn)

/-- A text as a value. -/
abbrev stv (t : List UInt8) : Value := .string ⟨t.toArray⟩
/-- The cells of trees in a row; all that lies below them lies in blocks of P. -/
def Fc (w : World) (P : Nat → Prop) : Fs → List Value → Prop
  | ⟨none⟩, xs => xs = []
  | ⟨some ⟨k, n, nm, a, ks, r⟩⟩, xs => ∃ ao cap ys, xs = .int .i64 k :: .int .i64 n :: stv nm :: .slice ao ks.len cap :: .int .i64 a :: ys ∧
      (ks = .nil ∨ ∃ b off zs, ao = some ⟨b, off, none⟩ ∧ P b ∧ b < w.heap.size ∧ (∀ j u, zs[j]? = some u → w.cell? ⟨b, off + j, none⟩ = some u) ∧ Fc w P ks zs) ∧ Fc w P r ys
/-- A slice of trees. -/
def Sl (w : World) (P : Nat → Prop) (ks : Fs) (ao : Option Addr) : Prop :=
  ks = .nil ∨ ∃ b off zs, ao = some ⟨b, off, none⟩ ∧ P b ∧ b < w.heap.size ∧ (∀ j u, zs[j]? = some u → w.cell? ⟨b, off + j, none⟩ = some u) ∧ Fc w P ks zs
/-- The value of a tree. -/
def exV (e : Ex) (ao : Option Addr) (cap : Nat) : Value := .agg #[.int .i64 e.k, .int .i64 e.n, stv e.nm, .slice ao e.kids.len cap, .int .i64 e.a]
theorem Fc.len {w : World} {P : Nat → Prop} : ∀ {f : Fs} {xs : List Value}, Fc w P f xs → xs.length = f.len * 5
  | ⟨none⟩, xs, h => by
    have h : xs = [] := h
    subst h
    rfl
  | ⟨some ⟨k, n, nm, a, ks, r⟩⟩, xs, h => by
    obtain ⟨ao, cap, ys, rfl, _, h2⟩ := h
    have := Fc.len h2
    simp only [List.length_cons, Fs.len]
    omega
theorem Fc.mono {w w' : World} {P Q : Nat → Prop} (hb : ∀ k, P k → k < w.heap.size → w'.heap[k]? = w.heap[k]?) (hs : w.heap.size ≤ w'.heap.size) (hq : ∀ k, P k → k < w.heap.size → Q k) : ∀ {f : Fs} {xs : List Value}, Fc w P f xs → Fc w' Q f xs
  | ⟨none⟩, xs, h => h
  | ⟨some ⟨k, n, nm, a, ks, r⟩⟩, xs, h => by
    obtain ⟨ao, cap, ys, rfl, h1, h2⟩ := h
    refine ⟨ao, cap, ys, rfl, ?_, Fc.mono hb hs hq h2⟩
    rcases h1 with h1 | ⟨b, off, zs, rfl, hp, hlt, hc, h3⟩
    · exact .inl h1
    · exact .inr ⟨b, off, zs, rfl, hq b hp hlt, Nat.lt_of_lt_of_le hlt hs, fun j u hu => (World.cell?_of_block (a := ⟨b, off + j, none⟩) (hb b hp hlt)).trans (hc j u hu), Fc.mono hb hs hq h3⟩
theorem Sl.mono {w w' : World} {P Q : Nat → Prop} {f : Fs} {ao : Option Addr} (hb : ∀ k, P k → k < w.heap.size → w'.heap[k]? = w.heap[k]?) (hs : w.heap.size ≤ w'.heap.size) (hq : ∀ k, P k → k < w.heap.size → Q k) (h : Sl w P f ao) : Sl w' Q f ao := by
  rcases h with h | ⟨b, off, zs, rfl, hp, hlt, hc, h3⟩
  · exact .inl h
  · exact .inr ⟨b, off, zs, rfl, hq b hp hlt, Nat.lt_of_lt_of_le hlt hs, fun j u hu => (World.cell?_of_block (a := ⟨b, off + j, none⟩) (hb b hp hlt)).trans (hc j u hu), h3.mono hb hs hq⟩
/-- Blocks behind the reader's. -/
abbrev Past (rb : Nat) : Nat → Prop := fun b => rb < b
theorem Fc.keep {rb : Nat} {w w' : World} {f : Fs} {xs : List Value} (h : Fc w (Past rb) f xs) (k : Keep rb w w') : Fc w' (Past rb) f xs := h.mono (fun i hp hl => k.block i hl (Nat.ne_of_gt hp)) k.size (fun _ h _ => h)
theorem Sl.keep {rb : Nat} {w w' : World} {f : Fs} {ao : Option Addr} (h : Sl w (Past rb) f ao) (k : Keep rb w w') : Sl w' (Past rb) f ao := h.mono (fun i hp hl => k.block i hl (Nat.ne_of_gt hp)) k.size (fun _ h _ => h)
theorem Fc.app {w : World} {P : Nat → Prop} : ∀ {f g : Fs} {xs ys : List Value}, Fc w P f xs → Fc w P g ys → Fc w P (f.app g) (xs ++ ys)
  | ⟨none⟩, g, xs, ys, h, k => by
    have h : xs = [] := h
    subst h
    exact k
  | ⟨some ⟨i, n, nm, a, ks, r⟩⟩, g, xs, ys, h, k => by
    obtain ⟨ao, cap, zs, rfl, h1, h2⟩ := h
    exact ⟨ao, cap, zs ++ ys, rfl, h1, Fc.app h2 k⟩
theorem Fc.one {w : World} {P : Nat → Prop} {e : Ex} {ao : Option Addr} (cap : Nat) (h : Sl w P e.kids ao) : Fc w P (one e) [.int .i64 e.k, .int .i64 e.n, stv e.nm, .slice ao e.kids.len cap, .int .i64 e.a] := ⟨ao, cap, [], rfl, h, rfl⟩
theorem Sl.of {w : World} {P : Nat → Prop} {f : Fs} {b : Nat} {xs : List Value} (hp : P b) (hlt : b < w.heap.size) (hc : ∀ j u, xs[j]? = some u → w.cell? ⟨b, 0 + j, none⟩ = some u) (h : Fc w P f xs) : Sl w P f (some ⟨b, 0, none⟩) := .inr ⟨b, 0, xs, rfl, hp, hlt, hc, h⟩
theorem Sl.nil (w : World) (P : Nat → Prop) (ao : Option Addr) : Sl w P .nil ao := .inl rfl

/-- The value of a token. -/
def tkV (x : Tk) : Value := .agg #[.int .i64 (x.k : Nat), .int .i64 x.n, stv x.t, .int .i64 (x.a : Nat)]
/-- The reader in memory: what comes next, what is open. -/
def RdS (w : World) (rb o q : Nat) (ts : List Tk) : Prop :=
  ∃ g cap all i, w.heap[rb]? = some (.cells #[.slice (some ⟨g, 0, none⟩) (all : List Tk).length cap, .int .i64 ((i : Nat) : Int), .int .i64 (o : Nat), .int .i64 (q : Nat)] 75 (0, 0)) ∧ g + 3 < rb ∧ (∀ j u, (tcells all)[j]? = some u → w.cell? ⟨g, j, none⟩ = some u) ∧ all.drop i = ts ∧ i ≤ all.length ∧ all.length ≤ 3000 ∧ all.length ≤ cap ∧ cap ≤ maxLen
theorem RdS.lt {w : World} {rb o q : Nat} {ts : List Tk} (h : RdS w rb o q ts) : rb < w.heap.size := by
  obtain ⟨g, cap, all, i, h1, _⟩ := h
  exact lt_of_block h1
/-- Steps that leave the reader alone. -/
theorem RdS.below {w w' : World} {rb o q : Nat} {ts : List Tk} (h : RdS w rb o q ts) (b : Below w.heap.size w w') : RdS w' rb o q ts := by
  have hlt := h.lt
  obtain ⟨g, cap, all, i, h1, h2, h4, h5⟩ := h
  exact ⟨g, cap, all, i, (b.block rb hlt).trans h1, h2, fun j u hu => (b.cell (p := ⟨g, j, none⟩) (show g < w.heap.size by omega)).trans (h4 j u hu), h5⟩
/-- A store behind the reader. -/
theorem RdS.set {w : World} {rb o q : Nat} {ts : List Tk} (h : RdS w rb o q ts) (p : Addr) (v : Value) (hp : rb < p.block) : RdS (w.setCell p v) rb o q ts := by
  obtain ⟨g, cap, all, i, h1, h2, h4, h5⟩ := h
  exact ⟨g, cap, all, i, (heap_setCell_other w p rb v (by omega)).trans h1, h2, fun j u hu => (World.cell?_of_block (a := ⟨g, j, none⟩) (heap_setCell_other w p g v (by omega))).trans (h4 j u hu), h5⟩
/-- A store into the blocks just ahead of the reader. -/
theorem RdS.setL {w : World} {rb o q : Nat} {ts : List Tk} (h : RdS w rb o q ts) (p : Addr) (v : Value) (hp : p.block < rb) (hp2 : rb ≤ p.block + 3) : RdS (w.setCell p v) rb o q ts := by
  obtain ⟨g, cap, all, i, h1, h2, h4, h5⟩ := h
  exact ⟨g, cap, all, i, (heap_setCell_other w p rb v (by omega)).trans h1, h2, fun j u hu => (World.cell?_of_block (a := ⟨g, j, none⟩) (heap_setCell_other w p g v (by omega))).trans (h4 j u hu), h5⟩
theorem RdS.alloc {w : World} {rb o q : Nat} {ts : List Tk} (h : RdS w rb o q ts) (ob : Obj) : RdS (w.alloc ob) rb o q ts := h.below ((Below.refl _ w).alloc (Nat.le_refl _) ob)
theorem tkcells_at : ∀ (l : List Tk) (i : Nat) (x : Tk), l[i]? = some x → (tcells l)[i * 4]? = some (.int .i64 (x.k : Nat)) ∧ (tcells l)[i * 4 + 1]? = some (.int .i64 x.n) ∧ (tcells l)[i * 4 + 2]? = some (stv x.t) ∧ (tcells l)[i * 4 + 3]? = some (.int .i64 (x.a : Nat))
  | [], i, x, h => by simp at h
  | p :: r, 0, x, h => by
    simp at h
    subst h
    exact ⟨rfl, rfl, rfl, rfl⟩
  | p :: r, i + 1, x, h => by
    have e : tcells (p :: r) = .int .i64 (p.k : Nat) :: .int .i64 p.n :: stv p.t :: .int .i64 (p.a : Nat) :: tcells r := rfl
    have e1 : (i + 1) * 4 = i * 4 + 1 + 1 + 1 + 1 := by omega
    have ih := tkcells_at r i x (by simpa using h)
    rw [e, e1]
    exact ih
/-- What a reader's call comes to. -/
abbrev RefV (er a : Nat) : Ending := .panicked [{ v := .iface 72 (.agg #[.int .i64 (er : Nat), .int .i64 (a : Nat)]), recovered := false }]
/-- Blocks that are new since. -/
abbrev Nw (n : Nat) : Nat → Prop := fun b => n ≤ b
theorem Sl.keepN {rb n : Nat} {w w' : World} {f : Fs} {ao : Option Addr} (h : Sl w (Nw n) f ao) (k : Keep rb w w') (hn : rb < n) : Sl w' (Nw n) f ao := h.mono (fun i hp hl => k.block i hl (by have hp : n ≤ i := hp; omega)) k.size (fun _ h _ => h)
theorem Sl.setN {n : Nat} {w : World} {f : Fs} {ao : Option Addr} (h : Sl w (Nw n) f ao) (p : Addr) (v : Value) (hp : p.block < n) : Sl (w.setCell p v) (Nw n) f ao := h.mono (fun i hp hl => heap_setCell_other w p i v (by have hp : n ≤ i := hp; omega)) (by simp) (fun _ h _ => h)
theorem Sl.allocN {n : Nat} {w : World} {f : Fs} {ao : Option Addr} (h : Sl w (Nw n) f ao) (ob : Obj) : Sl (w.alloc ob) (Nw n) f ao := h.mono (fun i hp hl => Below.heap_alloc w ob i hl) (by simp) (fun _ h _ => h)
theorem Sl.low {n m : Nat} {w : World} {f : Fs} {ao : Option Addr} (h : Sl w (Nw n) f ao) (hm : m ≤ n) : Sl w (Nw m) f ao := h.mono (fun i hp hl => rfl) (Nat.le_refl _) (fun i h _ => Nat.le_trans hm h)
theorem Fc.low {n m : Nat} {w : World} {f : Fs} {xs : List Value} (h : Fc w (Nw n) f xs) (hm : m ≤ n) : Fc w (Nw m) f xs := h.mono (fun i hp hl => rfl) (Nat.le_refl _) (fun i h _ => Nat.le_trans hm h)
theorem Fc.allocN {n : Nat} {w : World} {f : Fs} {xs : List Value} (h : Fc w (Nw n) f xs) (ob : Obj) : Fc (w.alloc ob) (Nw n) f xs := h.mono (fun i hp hl => Below.heap_alloc w ob i hl) (by simp) (fun _ h _ => h)
theorem Fc.setN {n : Nat} {w : World} {f : Fs} {xs : List Value} (h : Fc w (Nw n) f xs) (p : Addr) (v : Value) (hp : p.block < n) : Fc (w.setCell p v) (Nw n) f xs := h.mono (fun i hp hl => heap_setCell_other w p i v (by have hp : n ≤ i := hp; omega)) (by simp) (fun _ h _ => h)
theorem Fc.keepN {rb n : Nat} {w w' : World} {f : Fs} {xs : List Value} (h : Fc w (Nw n) f xs) (k : Keep rb w w') (hn : rb < n) : Fc w' (Nw n) f xs := h.mono (fun i hp hl => k.block i hl (by have hp : n ≤ i := hp; omega)) k.size (fun _ h _ => h)
/-- What a call that reads a tree answers and leaves. -/
def PostE (rb o q : Nat) (w : World) (res : Rs Ex) (e : Ending) (w' : World) : Prop :=
  match res with
  | ⟨none⟩ => False
  | ⟨some (.inl (er, a))⟩ => e = RefV er a ∧ Keep rb w w'
  | ⟨some (.inr (x, ts))⟩ => ∃ ao cap, e = .returned (exV x ao cap) ∧ Sl w' (Nw w.heap.size) x.kids ao ∧ RdS w' rb o q ts ∧ Keep rb w w'
/-- What a call that reads trees in a row answers and leaves. -/
def PostF (rb o q : Nat) (w : World) (res : Rs Fs) (e : Ending) (w' : World) : Prop :=
  match res with
  | ⟨none⟩ => False
  | ⟨some (.inl (er, a))⟩ => e = RefV er a ∧ Keep rb w w'
  | ⟨some (.inr (f, ts))⟩ => ∃ ao cap, e = .returned (.slice ao f.len cap) ∧ Sl w' (Nw w.heap.size) f ao ∧ RdS w' rb o q ts ∧ Keep rb w w'
end Go.Proofs.YtfpmaeflmboalaaGreatDoor
