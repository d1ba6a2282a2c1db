/- A forest of paths in memory: a block for each node, under a label of its own. No program. -/
import Derived.Test.YtffmlffhiimmdaaAr
import Derived.Test.YtffmlffhiimmdaaFlip
import Derived.Test.YtffmlffhiimmdaaProg
namespace Go.Proofs.Ytffmlffhiimmdaa
open Go.ChangeShapes Go.WideShapes Go.ChangeAt Go.RowKit
set_option linter.unusedVariables false

structure Ed where
  u : Nat
  v : Nat
  w : Int

/-- The pointer to a node; 0 is none. -/
def pq (pt : Nat → Nat) (h : Nat) : Option Addr := if h = 0 then none else some ⟨pt h, 0, none⟩
theorem pq0 (pt : Nat → Nat) : pq pt 0 = none := rfl
theorem pqn (pt : Nat → Nat) {h : Nat} (h0 : h ≠ 0) : pq pt h = some ⟨pt h, 0, none⟩ := by simp [pq, h0]
/-- A node's own edge. -/
def own (h : Nat) : Nat := if h % 2 = 0 then h else 0
def ownV (h : Nat) : Nat := if h % 2 = 0 then 0 else h
/-- A node's cells: vertex v is 2 v + 1, edge id is 2 id + 2. -/
def ncells (pt : Nat → Nat) (E : Nat → Ed) (x : Ln) (hv h : Nat) : Array Value :=
  if h % 2 = 0 then #[.pointer (pq pt x.up), .pointer (pq pt x.l), .pointer (pq pt x.r), .bool x.tw, .pointer (pq pt (ownV h)), .pointer (pq pt (own h)), .pointer (pq pt hv), .int .i64 ((h - 2) / 2 : Nat), .int .i64 (E h).u, .int .i64 (E h).v, .int .i64 (E h).w]
  else #[.pointer (pq pt x.up), .pointer (pq pt x.l), .pointer (pq pt x.r), .bool x.tw, .pointer (pq pt (ownV h)), .pointer (pq pt (own h)), .pointer (pq pt hv), .int .i64 ((h - 1) / 2 : Nat)]
def ntype (h : Nat) : TypeId := if h % 2 = 0 then 92 else 95

/-- The nodes in memory. -/
def Lm (w : World) (o : Nat → Nat) (L : Nat) (live : Nat → Prop) (pt : Nat → Nat) (E : Nat → Ed) (nd : Nat → Ln) (hv : Nat → Nat) : Prop :=
  ∀ h, live h → Blk w o (L + 5 + h) (pt h) (.cells (ncells pt E (nd h) (hv h) h) (ntype h) (0, 0))
/-- Labels of nodes. -/
def NL (L : Nat) : Nat → Prop := fun k => L + 6 ≤ k ∧ k < L + 4000000000000

variable {w w' : World} {o o' : Nat → Nat} {L : Nat} {live : Nat → Prop} {pt : Nat → Nat} {E : Nat → Ed} {nd nd' : Nat → Ln} {hv hv' : Nat → Nat}

/-- What is live is small enough, and nought is not. -/
def Small (live : Nat → Prop) : Prop := ∀ h, live h → 1 ≤ h ∧ h < 3000000000000
theorem Lm.step {I : Nat → Prop} (h : Lm w o L live pt E nd hv) (s : Step I w o w' o') (hs : Small live) (hi : ∀ k, NL L k → ¬ I k) : Lm w' o' L live pt E nd hv :=
  fun k hk => (h k hk).step s (hi _ ⟨by have := hs k hk; omega, by have := hs k hk; omega⟩)
theorem Lm.quiet (h : Lm w o L live pt E nd hv) (s : Step (fun _ => False) w o w' o') : Lm w' o' L live pt E nd hv := fun k hk => (h k hk).step s id
theorem Lm.congr (h : Lm w o L live pt E nd hv) (e : ∀ k, live k → nd' k = nd k) (e' : ∀ k, live k → hv' k = hv k) : Lm w o L live pt E nd' hv' := fun k hk => by rw [e k hk, e' k hk]; exact h k hk
theorem Lm.pt_ne (h : Lm w o L live pt E nd hv) {k j : Nat} (hk : live k) (hj : live j) (hne : k ≠ j) : pt k ≠ pt j := fun e => by
  have h1 := (h k hk).2
  have h2 := (h j hj).2
  rw [e] at h1
  omega
def upd {α : Type} (f : Nat → α) (h : Nat) (x : α) : Nat → α := fun k => if k = h then x else f k
theorem upd_same {α : Type} (f : Nat → α) (h : Nat) (x : α) : upd f h x h = x := by simp [upd]
theorem upd_other {α : Type} (f : Nat → α) {h k : Nat} (x : α) (e : k ≠ h) : upd f h x k = f k := by simp [upd, e]
theorem upd_upd {α : Type} (f : Nat → α) (h : Nat) (x y : α) : upd (upd f h x) h y = upd f h y := by
  funext k
  unfold upd
  split <;> rfl
/-- A store into one node's block. -/
theorem Lm.set (h : Lm w o L live pt E nd hv) (hs : Small live) {k : Nat} (hl : live k) (j : Nat) (u : Value) (x : Ln) (y : Nat) (hx : (ncells pt E (nd k) (hv k) k).setIfInBounds j u = ncells pt E x y k) :
    Lm (w.setCell ⟨pt k, j, none⟩ u) o L live pt E (upd nd k x) (upd hv k y) ∧ Step (NL L) w o (w.setCell ⟨pt k, j, none⟩ u) o := by
  have hk := h k hl
  have hb := hs k hl
  have s1 := setStep (fun x => x = L + 5 + k) w o ⟨pt k, j, none⟩ u hk.2
  refine ⟨fun i hi => ?_, s1.mono fun i hi => ⟨by omega, by omega⟩⟩
  by_cases e : i = k
  · subst e
    rw [upd_same, upd_same, ← hx]
    exact hk.set j u
  · rw [upd_other _ _ e, upd_other _ _ e]
    exact (h i hi).step s1 (by omega)
theorem Lm.set_up (h : Lm w o L live pt E nd hv) (hs : Small live) {k : Nat} (hl : live k) (a : Nat) :
    Lm (w.setCell ⟨pt k, 0, none⟩ (.pointer (pq pt a))) o L live pt E (upd nd k { nd k with up := a }) hv ∧ Step (NL L) w o (w.setCell ⟨pt k, 0, none⟩ (.pointer (pq pt a))) o := by
  have := h.set hs hl 0 (.pointer (pq pt a)) { nd k with up := a } (hv k) (by unfold ncells; split <;> simp)
  refine ⟨this.1.congr (fun _ _ => rfl) (fun j _ => ?_), this.2⟩
  unfold upd; split <;> simp_all
theorem Lm.set_l (h : Lm w o L live pt E nd hv) (hs : Small live) {k : Nat} (hl : live k) (a : Nat) :
    Lm (w.setCell ⟨pt k, 1, none⟩ (.pointer (pq pt a))) o L live pt E (upd nd k { nd k with l := a }) hv ∧ Step (NL L) w o (w.setCell ⟨pt k, 1, none⟩ (.pointer (pq pt a))) o := by
  have := h.set hs hl 1 (.pointer (pq pt a)) { nd k with l := a } (hv k) (by unfold ncells; split <;> simp)
  refine ⟨this.1.congr (fun _ _ => rfl) (fun j _ => ?_), this.2⟩
  unfold upd; split <;> simp_all
theorem Lm.set_r (h : Lm w o L live pt E nd hv) (hs : Small live) {k : Nat} (hl : live k) (a : Nat) :
    Lm (w.setCell ⟨pt k, 2, none⟩ (.pointer (pq pt a))) o L live pt E (upd nd k { nd k with r := a }) hv ∧ Step (NL L) w o (w.setCell ⟨pt k, 2, none⟩ (.pointer (pq pt a))) o := by
  have := h.set hs hl 2 (.pointer (pq pt a)) { nd k with r := a } (hv k) (by unfold ncells; split <;> simp)
  refine ⟨this.1.congr (fun _ _ => rfl) (fun j _ => ?_), this.2⟩
  unfold upd; split <;> simp_all
theorem Lm.set_tw (h : Lm w o L live pt E nd hv) (hs : Small live) {k : Nat} (hl : live k) (b : Bool) :
    Lm (w.setCell ⟨pt k, 3, none⟩ (.bool b)) o L live pt E (upd nd k { nd k with tw := b }) hv ∧ Step (NL L) w o (w.setCell ⟨pt k, 3, none⟩ (.bool b)) o := by
  have := h.set hs hl 3 (.bool b) { nd k with tw := b } (hv k) (by unfold ncells; split <;> simp)
  refine ⟨this.1.congr (fun _ _ => rfl) (fun j _ => ?_), this.2⟩
  unfold upd; split <;> simp_all
theorem Lm.set_hv (h : Lm w o L live pt E nd hv) (hs : Small live) {k : Nat} (hl : live k) (a : Nat) :
    Lm (w.setCell ⟨pt k, 6, none⟩ (.pointer (pq pt a))) o L live pt E nd (upd hv k a) ∧ Step (NL L) w o (w.setCell ⟨pt k, 6, none⟩ (.pointer (pq pt a))) o := by
  have := h.set hs hl 6 (.pointer (pq pt a)) (nd k) a (by unfold ncells; split <;> simp)
  refine ⟨this.1.congr (fun j _ => ?_) (fun _ _ => rfl), this.2⟩
  unfold upd; split <;> simp_all
/-- What a walk reads of a node. -/
structure NdC (w : World) (pt : Nat → Nat) (x : Ln) (y h : Nat) : Prop where
  up : w.cell? ⟨pt h, 0, none⟩ = some (.pointer (pq pt x.up))
  l : w.cell? ⟨pt h, 1, none⟩ = some (.pointer (pq pt x.l))
  r : w.cell? ⟨pt h, 2, none⟩ = some (.pointer (pq pt x.r))
  tw : w.cell? ⟨pt h, 3, none⟩ = some (.bool x.tw)
  vx : w.cell? ⟨pt h, 4, none⟩ = some (.pointer (pq pt (ownV h)))
  ed : w.cell? ⟨pt h, 5, none⟩ = some (.pointer (pq pt (own h)))
  hv : w.cell? ⟨pt h, 6, none⟩ = some (.pointer (pq pt y))
  fz : ∀ j, w.frozen? ⟨pt h, j, none⟩ = false
theorem Lm.node (h : Lm w o L live pt E nd hv) {k : Nat} (hl : live k) : NdC w pt (nd k) (hv k) k := by
  have H := h k hl
  refine ⟨?_, ?_, ?_, ?_, ?_, ?_, ?_, fun j => frozen_of_row w _ j _ _ H.1⟩ <;> rw [cell_of_row w _ _ _ _ (0, 0) H.1] <;> unfold ncells <;> split <;> simp
theorem Lm.edge (h : Lm w o L live pt E nd hv) {k : Nat} (hl : live k) (e : k % 2 = 0) :
    w.cell? ⟨pt k, 7, none⟩ = some (.int .i64 ((k - 2) / 2 : Nat)) ∧ w.cell? ⟨pt k, 8, none⟩ = some (.int .i64 (E k).u) ∧ w.cell? ⟨pt k, 9, none⟩ = some (.int .i64 (E k).v) ∧ w.cell? ⟨pt k, 10, none⟩ = some (.int .i64 (E k).w) := by
  have H := h k hl
  refine ⟨?_, ?_, ?_, ?_⟩ <;> rw [cell_of_row w _ _ _ _ (0, 0) H.1] <;> simp [ncells, e]
theorem Lm.vertex (h : Lm w o L live pt E nd hv) {k : Nat} (hl : live k) (e : ¬ k % 2 = 0) : w.cell? ⟨pt k, 7, none⟩ = some (.int .i64 ((k - 1) / 2 : Nat)) := by
  have H := h k hl
  rw [cell_of_row w _ _ _ _ (0, 0) H.1]
  simp [ncells, e]

end Go.Proofs.Ytffmlffhiimmdaa
