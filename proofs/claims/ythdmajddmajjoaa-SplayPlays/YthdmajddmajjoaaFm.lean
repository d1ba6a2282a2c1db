/- A forest in memory: its struct, its arena of pointers, a block for each node. No program. -/
import Derived.Test.YthdmajddmajjoaaTree
import Derived.Test.YthdmajddmajjoaaArNod
namespace Go.Proofs.Ythdmajddmajjoaa
open Go.ChangeShapes Go.WideShapes Go.ChangeAt Go.RowKit
set_option linter.unusedVariables false

/-- A node's cells. -/
def Nd.cells (x : Nd) : Array Value := #[.int .i64 x.it.v, .bool x.it.c, .int .i64 x.it.f, .int .i64 x.up, .int .i64 x.l, .int .i64 x.r, .int .i64 x.size, .int .i64 x.ag.count, .int .i64 x.ag.sum, .int .i64 x.ag.least, .int .i64 x.ag.most, .int .i64 x.ag.flags]
/-- Is h a node? -/
def Live (n : Nat) (free : List Nat) (h : Nat) : Prop := 1 ≤ h ∧ h ≤ n ∧ h ∉ free
theorem Live.has {n : Nat} {free : List Nat} {h : Nat} (l : Live n free h) : hasB n free h = true := by
  obtain ⟨h1, h2, h3⟩ := l
  have e : (h : Int).toNat - 1 + 1 = h := by omega
  simp only [hasB, useB, e, Bool.and_eq_true, decide_eq_true_eq]
  exact ⟨⟨by omega, by omega⟩, by simp [h3]⟩
theorem Live.use {n : Nat} {free : List Nat} {h : Nat} (l : Live n free h) : useB free (h - 1) = true := by
  obtain ⟨h1, h2, h3⟩ := l
  have e : h - 1 + 1 = h := by omega
  simp [useB, e, h3]
theorem Live.of {n : Nat} {free : List Nat} {x : Int} (hb : hasB n free x = true) : ∃ h : Nat, x = h ∧ Live n free h := by
  simp only [hasB, Bool.and_eq_true, decide_eq_true_eq] at hb
  obtain ⟨⟨h1, h2⟩, h3⟩ := hb
  refine ⟨x.toNat, by omega, by omega, by omega, ?_⟩
  have e : x.toNat - 1 + 1 = x.toNat := by omega
  rw [useB, e] at h3
  simpa using h3
theorem not_live0 (n : Nat) (free : List Nat) : ¬ Live n free 0 := fun h => by have := h.1; omega
theorem has0 (n : Nat) (free : List Nat) : hasB n free 0 = false := by simp [hasB]

/-- A forest in memory: labels from L on: the struct, the arena's four, a captured variable's, a label for each node. -/
def Fm (w : World) (o : Nat → Nat) (L p room n : Nat) (free : List Nat) (pt : Nat → Nat) (nd : Nat → Nd) : Prop :=
  ∃ pa cs, Blk w o L p (.cells #[.pointer (some ⟨pa, 0, none⟩)] 55 (0, 0)) ∧ Ar 87 53 1 w o (L + 1) pa room n cs free ∧ room ≤ 1024 ∧
    ∀ h, Live n free h → cs[h - 1]? = some (.pointer (some ⟨pt h, 0, none⟩)) ∧ Blk w o (L + 5 + h) (pt h) (.cells (nd h).cells 79 (0, 0))
/-- The labels of a forest; of its nodes and the captured variable. -/
def FL (L : Nat) : Nat → Prop := fun k => L ≤ k ∧ k < L + 1100
def NL (L : Nat) : Nat → Prop := fun k => L + 6 ≤ k ∧ k < L + 1100
theorem NL.fl {L k : Nat} (h : NL L k) : FL L k := ⟨by have := h.1; omega, h.2⟩
theorem Fm.le {w : World} {o : Nat → Nat} {L p room n : Nat} {free : List Nat} {pt : Nat → Nat} {nd : Nat → Nd} (h : Fm w o L p room n free pt nd) : n ≤ 1024 := by
  obtain ⟨pa, cs, h0, h1, h2, h3⟩ := h
  exact Nat.le_trans h1.wf.le h2
theorem Fm.wf {w : World} {o : Nat → Nat} {L p room n : Nat} {free : List Nat} {pt : Nat → Nat} {nd : Nat → Nd} (h : Fm w o L p room n free pt nd) : WF room n free := by
  obtain ⟨pa, cs, h0, h1, h2, h3⟩ := h
  exact h1.wf
theorem Fm.step {I : Nat → Prop} {w w' : World} {o o' : Nat → Nat} {L p room n : Nat} {free : List Nat} {pt : Nat → Nat} {nd : Nat → Nd} (h : Fm w o L p room n free pt nd) (s : Step I w o w' o') (hi : ∀ k, FL L k → ¬ I k) : Fm w' o' L p room n free pt nd := by
  have hn := h.le
  obtain ⟨pa, cs, h0, h1, h2, h3⟩ := h
  refine ⟨pa, cs, h0.step s (hi _ ⟨by omega, by omega⟩), h1.step s (fun k hk => hi k ⟨by have := hk.1; omega, by have := hk.2; omega⟩), h2, fun h hl => ?_⟩
  obtain ⟨g1, g2⟩ := h3 h hl
  exact ⟨g1, g2.step s (hi _ ⟨by omega, by have := hl.2.1; omega⟩)⟩
theorem Fm.quiet {w w' : World} {o o' : Nat → Nat} {L p room n : Nat} {free : List Nat} {pt : Nat → Nat} {nd : Nat → Nd} (h : Fm w o L p room n free pt nd) (s : Step (fun _ => False) w o w' o') : Fm w' o' L p room n free pt nd := h.step s (fun _ _ => id)
theorem Fm.drewN {w : World} {o : Nat → Nat} {L p room n : Nat} {free : List Nat} {pt : Nat → Nat} {nd : Nat → Nd} (h : Fm w o L p room n free pt nd) (m : Nat) : Fm (w.drewN m) o L p room n free pt nd := h
theorem Fm.congr {w : World} {o : Nat → Nat} {L p room n : Nat} {free : List Nat} {pt : Nat → Nat} {nd nd' : Nat → Nd} (h : Fm w o L p room n free pt nd) (e : ∀ k, Live n free k → nd' k = nd k) : Fm w o L p room n free pt nd' := by
  obtain ⟨pa, cs, h0, h1, h2, h3⟩ := h
  exact ⟨pa, cs, h0, h1, h2, fun h hl => by rw [e h hl]; exact h3 h hl⟩

def upd {α : Type} (f : Nat → α) (h : Nat) (x : α) : Nat → α := fun k => if k = h then x else f k
theorem upd_same {α : Type} (f : Nat → α) (h : Nat) (x : α) : upd f h x h = x := by simp [upd]
theorem upd_other {α : Type} (f : Nat → α) {h k : Nat} (x : α) (e : k ≠ h) : upd f h x k = f k := by simp [upd, e]

/-- What a walk reads of a node. -/
theorem Fm.node {w : World} {o : Nat → Nat} {L p room n : Nat} {free : List Nat} {pt : Nat → Nat} {nd : Nat → Nd} (h : Fm w o L p room n free pt nd) {k : Nat} (hl : Live n free k) :
    Blk w o (L + 5 + k) (pt k) (.cells (nd k).cells 79 (0, 0)) := by
  obtain ⟨pa, cs, h0, h1, h2, h3⟩ := h
  exact (h3 k hl).2
theorem Fm.nd_ne {w : World} {o : Nat → Nat} {L p room n : Nat} {free : List Nat} {pt : Nat → Nat} {nd : Nat → Nd} (h : Fm w o L p room n free pt nd) {k j : Nat} (hk : Live n free k) (hj : Live n free j) (hne : k ≠ j) : pt k ≠ pt j := fun e => by
  have h1 := (h.node hk).2
  have h2 := (h.node hj).2
  rw [e] at h1
  omega
/-- A store into one node's block. -/
theorem Fm.set {w : World} {o : Nat → Nat} {L p room n : Nat} {free : List Nat} {pt : Nat → Nat} {nd : Nat → Nd} (h : Fm w o L p room n free pt nd) {k : Nat} (hl : Live n free k) (j : Nat) (u : Value) (x : Nd) (hx : (nd k).cells.setIfInBounds j u = x.cells) :
    Fm (w.setCell ⟨pt k, j, none⟩ u) o L p room n free pt (upd nd k x) ∧ Step (NL L) w o (w.setCell ⟨pt k, j, none⟩ u) o := by
  have hn := h.le
  obtain ⟨pa, cs, h0, h1, h2, h3⟩ := h
  have hk := (h3 k hl).2
  have hkn := hl.2.1
  have hk1 := hl.1
  have s1 := setStep (fun x => x = L + 5 + k) w o ⟨pt k, j, none⟩ u hk.2
  refine ⟨⟨pa, cs, h0.step s1 (by omega), h1.step s1 (fun i hi => by have := hi.1; have := hi.2; omega), h2, fun i hi => ?_⟩, s1.mono fun i hi => ⟨by omega, by omega⟩⟩
  obtain ⟨g1, g2⟩ := h3 i hi
  refine ⟨g1, ?_⟩
  by_cases e : i = k
  · subst e
    rw [upd_same, ← hx]
    exact hk.set j u
  · rw [upd_other _ _ e]
    exact g2.step s1 (by omega)
theorem Blk.cells12 {w : World} {o : Nat → Nat} {i b : Nat} {x : Nd} {t : TypeId} (h : Blk w o i b (.cells x.cells t (0, 0))) :
    (w.cell? ⟨b, 0, none⟩ = some (.int .i64 x.it.v) ∧ w.cell? ⟨b, 1, none⟩ = some (.bool x.it.c) ∧ w.cell? ⟨b, 2, none⟩ = some (.int .i64 x.it.f)) ∧ w.cell? ⟨b, 3, none⟩ = some (.int .i64 x.up) ∧ w.cell? ⟨b, 4, none⟩ = some (.int .i64 x.l) ∧ w.cell? ⟨b, 5, none⟩ = some (.int .i64 x.r) ∧
      (w.cell? ⟨b, 6, none⟩ = some (.int .i64 x.size) ∧ w.cell? ⟨b, 7, none⟩ = some (.int .i64 x.ag.count) ∧ w.cell? ⟨b, 8, none⟩ = some (.int .i64 x.ag.sum) ∧ w.cell? ⟨b, 9, none⟩ = some (.int .i64 x.ag.least) ∧ w.cell? ⟨b, 10, none⟩ = some (.int .i64 x.ag.most) ∧ w.cell? ⟨b, 11, none⟩ = some (.int .i64 x.ag.flags)) ∧ ∀ j, w.frozen? ⟨b, j, none⟩ = false := by
  refine ⟨⟨?_, ?_, ?_⟩, ?_, ?_, ?_, ⟨?_, ?_, ?_, ?_, ?_, ?_⟩, fun j => frozen_of_row w b j _ t h.1⟩ <;> simp [cell_of_row w b _ _ t (0, 0) h.1, Nd.cells]
theorem Blk.cells1 {w : World} {o : Nat → Nat} {i b : Nat} {a0 : Value} {t : TypeId} (h : Blk w o i b (.cells #[a0] t (0, 0))) :
    w.cell? ⟨b, 0, none⟩ = some a0 ∧ ∀ j, w.frozen? ⟨b, j, none⟩ = false := by
  refine ⟨?_, fun j => frozen_of_row w b j _ t h.1⟩
  simp [cell_of_row w b _ _ t (0, 0) h.1]
def sumsV (s : Nat) (a : Ag) : Value := .agg #[.int .i64 s, .int .i64 a.count, .int .i64 a.sum, .int .i64 a.least, .int .i64 a.most, .int .i64 a.flags]
def itemV (x : It) : Value := .agg #[.int .i64 x.v, .bool x.c, .int .i64 x.f]
def aggV (a : Ag) : Value := .agg #[.int .i64 a.count, .int .i64 a.sum, .int .i64 a.least, .int .i64 a.most, .int .i64 a.flags]

end Go.Proofs.Ythdmajddmajjoaa
