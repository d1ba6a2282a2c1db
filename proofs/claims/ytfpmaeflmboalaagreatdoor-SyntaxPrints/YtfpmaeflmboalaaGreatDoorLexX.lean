/- The laws of package lex: are two lists of tokens the same? The first calls. -/
import Derived.Test.YtfpmaeflmboalaaGreatDoorLexW
namespace Go.Proofs.YtfpmaeflmboalaaGreatDoor
open Go.ChangeShapes Go.WideShapes Go.ChangeAt Go.RowKit
set_option linter.unusedVariables false

/-- A slice that reads as tokens. -/
def Tks (w : World) (v : Value) (ts : List Tk) : Prop :=
  ∃ ao cap, v = .slice ao ts.length cap ∧ (0 < ts.length → ∃ g, ao = some ⟨g, 0, none⟩ ∧ g < w.heap.size ∧ ∀ j, j < ts.length * 4 → w.cell? ⟨g, j, none⟩ = (tcells ts)[j]?)
theorem Tks.of {w : World} {b : Nat} {v : Value} {ts : List Tk} (h : w.ownsRow b 44 4 v ts.length (tcells ts)) : Tks w v ts := by
  have r : Row w (fun _ => 0) 0 44 4 v ts.length (tcells ts) := ⟨ownsRow_base0 h, fun _ _ => rfl⟩
  by_cases h0 : 0 < ts.length
  · obtain ⟨g, cap, rfl, _, _, _, hlt, hc, _⟩ := r.pos h0
    exact ⟨_, _, rfl, fun _ => ⟨g, rfl, hlt, hc⟩⟩
  · obtain ⟨ao, cap, rfl⟩ := r.form
    exact ⟨ao, cap, rfl, fun h => absurd h h0⟩
theorem Tks.nil (w : World) : Tks w (.slice none 0 0) [] := ⟨none, 0, rfl, fun h => by cases h⟩
theorem Tks.below {w w' : World} {v : Value} {ts : List Tk} (h : Tks w v ts) (b : Below w.heap.size w w') : Tks w' v ts := by
  obtain ⟨ao, cap, rfl, hx⟩ := h
  refine ⟨ao, cap, rfl, fun h0 => ?_⟩
  obtain ⟨g, rfl, hlt, hc⟩ := hx h0
  exact ⟨g, rfl, Nat.lt_of_lt_of_le hlt b.size, fun j hj => (b.cell (p := ⟨g, j, none⟩) hlt).trans (hc j hj)⟩
/-- What is read of one token. -/
theorem Tks.at {w : World} {v : Value} {ts : List Tk} (h : Tks w v ts) (i : Nat) (hi : i < ts.length) : ∃ g cap, v = .slice (some ⟨g, 0, none⟩) ts.length cap ∧
    w.cell? ⟨g, i * 4, none⟩ = some (.int .i64 ((ts[i]).k : Nat)) ∧ w.cell? ⟨g, i * 4 + 1, none⟩ = some (.int .i64 (ts[i]).n) ∧ w.cell? ⟨g, i * 4 + 2, none⟩ = some (.string ⟨(ts[i]).t.toArray⟩) ∧ w.cell? ⟨g, i * 4 + 3, none⟩ = some (.int .i64 ((ts[i]).a : Nat)) := by
  obtain ⟨ao, cap, rfl, hx⟩ := h
  obtain ⟨g, rfl, hlt, hc⟩ := hx (by omega)
  obtain ⟨p0, p1, p2, p3⟩ := tcells_at ts i hi
  exact ⟨g, cap, rfl, (hc _ (by omega)).trans p0, (hc _ (by omega)).trans p1, (hc _ (by omega)).trans p2, (hc _ (by omega)).trans p3⟩
/-- The tokens of the first call. -/
def tsA : List Tk := [⟨4, 0, [64], 0⟩, ⟨1, 5, [], 1⟩, ⟨4, 0, [33, 61], 2⟩, ⟨2, 0, [120], 4⟩, ⟨0, 0, [], 5⟩]
theorem scanA1 : scanA [64, 53, 33, 61, 120] = .inr tsA := by kernel_rfl
theorem scanA2 : scanA [97, 49, 32, 60, 61, 32, 48, 55] = .inl (111, 6) := by kernel_rfl
abbrev tcA : Array Value := #[.int .i64 4, .int .i64 0, .string ⟨#[64]⟩, .int .i64 0, .int .i64 1, .int .i64 5, .string ⟨#[]⟩, .int .i64 1, .int .i64 4, .int .i64 0, .string ⟨#[33, 61]⟩, .int .i64 2, .int .i64 2, .int .i64 0, .string ⟨#[120]⟩, .int .i64 4, .int .i64 0, .int .i64 0, .string ⟨#[]⟩, .int .i64 5]
theorem tksA (w : World) (t : TypeId) : Tks (w.alloc (.cells tcA t)) (.slice (some ⟨w.heap.size, 0, none⟩) 5 5) tsA := by
  refine ⟨_, 5, rfl, fun _ => ⟨w.heap.size, rfl, by simp, fun j hj => ?_⟩⟩
  rw [cell_of_row _ _ _ _ _ _ (heap_alloc_new w (.cells tcA t))]
  have : tcA.toList = tcells tsA := rfl
  rw [← this]
  simp
theorem ScanOut.inr {w w' : World} {v : Value} {er at0 : Int} {R : Res} {ts : List Tk} (h : ScanOut w w' v er at0 R) (hR : R = .inr ts) : er = 0 ∧ at0 = 0 ∧ w'.ownsRow w.heap.size 44 4 v ts.length (tcells ts) := by
  rcases h with ⟨e, p, h1, _⟩ | ⟨us, h1, h2, h3, h4⟩
  · rw [h1] at hR; cases hR
  · rw [h1] at hR
    injection hR with hR
    subst hR
    exact ⟨h2, h3, h4⟩
theorem ScanOut.inl {w w' : World} {v : Value} {er at0 : Int} {R : Res} {e p : Nat} (h : ScanOut w w' v er at0 R) (hR : R = .inl (e, p)) : er = (e : Nat) ∧ at0 = (p : Nat) ∧ v = .slice none 0 0 := by
  rcases h with ⟨e', p', h1, h2, h3, h4⟩ | ⟨us, h1, _⟩
  · rw [h1] at hR
    injection hR with hR
    injection hR with a b
    subst a b
    exact ⟨h3, h4, h2⟩
  · rw [h1] at hR; cases hR
end Go.Proofs.YtfpmaeflmboalaaGreatDoor
