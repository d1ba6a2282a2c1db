/- Lists of lists of numbers that came in, opened. -/
import Derived.Test.YtabkbldhiigcgaaDoorGroupsWalk
import Derived.Test.YtabkbldhiigcgaaDoorRowK9
import Derived.Deep.Slices
namespace Go.Proofs.YtabkbldhiigcgaaDoor
open Go.ChangeShapes Go.WideShapes Go.ChangeAt Go.RowKit
set_option linter.unusedVariables false

theorem cellsSl : Tryd.prog.cellsOf 37 = 1 := by kernel_rfl
theorem open_arg2 {H : Type} {enc : TypeId × Value → H} {W : World} {v : Value} {d : DataW H} {ps : List MemPlace} {ao : Option Addr} {len cap : Nat} (hv : v = .slice ao len cap)
    (h : DataW.Trod enc Tryd.prog W 0 (fun _ => true) true 33 v d ps) (hlt : ∀ x ∈ ps, x.block < W.heap.size) :
    len ≤ maxLen ∧ ∃ li z, IntsS W ao len li z := by
  subst hv
  obtain ⟨fuel, hf⟩ := h
  rcases Go.Deep.open_slice1 Tryd.underlying33 cellsSl hf with ⟨hcs, hx⟩ | ⟨a, len', cap', m, n, V, D, Pl, hcs, _, hl, hm, hmm, hx, hV⟩
  · simp [Value.cells] at hcs
    obtain ⟨rfl, rfl, rfl⟩ := hcs
    exact ⟨by unfold maxLen; omega, fun _ => (none, 0, 0), fun _ _ => 0, fun j hj => by omega⟩
  · simp [Value.cells] at hcs
    obtain ⟨rfl, rfl, rfl⟩ := hcs
    simp only [if_true] at hmm
    subst hmm
    simp only [Prod.mk.injEq] at hx
    obtain ⟨rfl, rfl⟩ := hx
    have key : ∀ j, j < len → ∃ q : (Option Addr × Nat × Nat) × (Nat → Int), V j = .slice q.1.1 q.1.2.1 q.1.2.2 ∧ Ints W q.1.1 q.1.2.1 q.2 ∧ q.1.2.1 ≤ maxLen := fun j hj => by
      have hj' : j < m := by omega
      obtain ⟨_, h2⟩ := hV j hj'
      have hltj : ∀ x ∈ Pl j, x.block < W.heap.size := fun x hx => hlt x (List.mem_append_right _ (List.mem_flatMap.2 ⟨j, List.mem_range.2 hj', hx⟩))
      rcases open_ints Tryd.underlying37 Tryd.underlying3 cellsInt h2 with ⟨hcs, _⟩ | ⟨a', len', cap', zs, hcs, _, hl', hm', _, _, _, _⟩
      · have hvj : V j = .slice none 0 0 := by simpa using hcs
        exact ⟨((none, 0, 0), fun _ => 0), hvj, fun j hj => absurd hj (Nat.not_lt_zero _), Nat.zero_le _⟩
      · have hvj : V j = .slice (some a') len' cap' := by simpa using hcs
        obtain ⟨⟨z, hz⟩, _⟩ := open_arg (enc := enc) hvj ⟨n, by rw [hvj] at h2 ⊢; exact h2⟩ hltj
        exact ⟨((some a', len', cap'), z), hvj, hz, Nat.le_trans hl' hm'⟩
    obtain ⟨Q, hQ⟩ := Go.Deep.choose_lt key
    refine ⟨Nat.le_trans hl hm, fun j => (Q j).1, fun j => (Q j).2, fun j hj => ?_⟩
    obtain ⟨b, off, spot⟩ := a
    have hspot : spot = none := by simpa [Addr.add] using World.cell?_spot (hV 0 (by omega)).1
    subst hspot
    have hbW : b < W.heap.size := hlt (.cell b off) (List.mem_append_left _ (MemPlace.mem_row.2 ⟨0, by omega, by simp⟩))
    obtain ⟨e1, e2, e3⟩ := hQ j hj
    exact ⟨b, off, rfl, hbW, by rw [← add_plain, (hV j (by omega)).1, e1], e2, e3⟩
end Go.Proofs.YtabkbldhiigcgaaDoor
