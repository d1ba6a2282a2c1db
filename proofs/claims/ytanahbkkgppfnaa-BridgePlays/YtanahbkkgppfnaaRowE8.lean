/- Edges that came in, opened to their cells. -/
import Derived.Test.YtanahbkkgppfnaaRowK8
import Derived.Deep.Slices
namespace Go.Proofs.Ytanahbkkgppfnaa
open Go.ChangeShapes Go.WideShapes Go.ChangeAt Go.RowKit
set_option linter.unusedVariables false

/-- Edges that came in, only read. -/
def ArgE (w : World) (o : Nat → Nat) (ao : Option Addr) (len : Nat) (f : Nat → EdT) : Prop :=
  ∀ j, j < len → ∃ b off, ao = some ⟨b, off, none⟩ ∧ b < w.heap.size ∧ o b = 0 ∧ (w.cell? ⟨b, off + j * 4, none⟩ = some (.int .i64 (f j).id) ∧ w.cell? ⟨b, off + j * 4 + 1, none⟩ = some (.int .i64 (f j).u) ∧ w.cell? ⟨b, off + j * 4 + 2, none⟩ = some (.int .i64 (f j).v) ∧ w.cell? ⟨b, off + j * 4 + 3, none⟩ = some (.int .i64 (f j).wt)) ∧ i64 (f j).id ∧ i64 (f j).u ∧ i64 (f j).v ∧ i64 (f j).wt
theorem ArgE.step {I : Nat → Prop} {w w' : World} {o o' : Nat → Nat} {ao : Option Addr} {len : Nat} {f : Nat → EdT} (h : ArgE w o ao len f) (s : Step I w o w' o') (hi : ¬ I 0) : ArgE w' o' ao len f := by
  intro j hj
  obtain ⟨b, off, h1, h2, h3, ⟨c0, c1, c2, c3⟩, hb⟩ := h j hj
  have hc := fun k => s.cell h2 (by rw [h3]; exact hi) k
  exact ⟨b, off, h1, Nat.lt_of_lt_of_le h2 s.size, (s.lab b h2).trans h3, ⟨(hc _).trans c0, (hc _).trans c1, (hc _).trans c2, (hc _).trans c3⟩, hb⟩

theorem cellsEd : Try.prog.cellsOf 36 = 4 := by kernel_rfl
theorem bytesEd : Try.prog.bytesOf 36 = 32 := by kernel_rfl

set_option maxRecDepth 100000 in
theorem open_eds {H : Type} {enc : TypeId × Value → H} {W : World} {v : Value} {d : DataW H} {ps : List MemPlace} {ao : Option Addr} {len cap : Nat} (hv : v = .slice ao len cap)
    (h : DataW.Trod enc Try.prog W 0 (fun _ => true) true 22 v d ps) (hlt : ∀ x ∈ ps, x.block < W.heap.size) :
    (∃ f, ArgE W o0 ao len f) ∧ ((d = .nil ∧ len = 0 ∧ cap = 0) ∨ ∃ es sp, d = .slice es sp ∧ es.length + sp.length = cap ∧ len ≤ cap) := by
  subst hv
  obtain ⟨fuel, hf⟩ := h
  rcases Go.Deep.open_slice Try.underlying22 hf with ⟨hcs, hx⟩ | ⟨a, len', cap', m, n, D, Pl, hcs, _, hl, hm, hmm, hx, hel⟩
  · simp [Value.cells] at hcs
    obtain ⟨rfl, rfl, rfl⟩ := hcs
    simp only [Prod.mk.injEq] at hx
    exact ⟨⟨fun _ => ⟨0, 0, 0, 0⟩, fun j hj => by omega⟩, .inl ⟨hx.1, rfl, rfl⟩⟩
  · simp [Value.cells] at hcs
    obtain ⟨rfl, rfl, rfl⟩ := hcs
    simp only [Prod.mk.injEq] at hx
    obtain ⟨rfl, rfl⟩ := hx
    simp only [if_true] at hmm
    subst hmm
    refine ⟨?_, .inr ⟨_, _, rfl, by simp; omega, hl⟩⟩
    obtain ⟨b, off, spot⟩ := a
    have each : ∀ i, i < len → ∃ q : EdT, (⟨b, off, spot⟩ : Addr).spot = none ∧ b < W.heap.size ∧ o0 b = 0 ∧ (W.cell? ⟨b, off + i * 4, none⟩ = some (.int .i64 q.id) ∧ W.cell? ⟨b, off + i * 4 + 1, none⟩ = some (.int .i64 q.u) ∧ W.cell? ⟨b, off + i * 4 + 2, none⟩ = some (.int .i64 q.v) ∧ W.cell? ⟨b, off + i * 4 + 3, none⟩ = some (.int .i64 q.wt)) ∧ i64 q.id ∧ i64 q.u ∧ i64 q.v ∧ i64 q.wt := by
      intro i hi
      obtain ⟨cs', h1, h2⟩ := hel i (by omega)
      rw [cellsEd] at h1
      obtain ⟨_, hlen, hcell⟩ := World.cells?_some h1
      obtain ⟨xs, k, hk, hxy, _, hxl, hff⟩ := DataW.trod_struct Try.underlying36 h2
      match xs, hxl, cs', hlen with
      | [y0, y1, y2, y3], _, [u0, u1, u2, u3], _ =>
        have g0 := hff 0 _ rfl
        have g1 := hff 1 _ rfl
        have g2 := hff 2 _ rfl
        have g3 := hff 3 _ rfl
        simp [cellsInt] at g0 g1 g2 g3
        obtain ⟨z0, e0, _, w0⟩ := DataW.trod_int Try.underlying3 g0
        obtain ⟨z1, e1, _, w1⟩ := DataW.trod_int Try.underlying3 g1
        obtain ⟨z2, e2, _, w2⟩ := DataW.trod_int Try.underlying3 g2
        obtain ⟨z3, e3, _, w3⟩ := DataW.trod_int Try.underlying3 g3
        simp at e0 e1 e2 e3
        subst e0 e1 e2 e3
        have c0 := hcell 0 (by omega)
        have c1 := hcell 1 (by omega)
        have c2 := hcell 2 (by omega)
        have c3 := hcell 3 (by omega)
        have hspot : spot = none := by
          obtain ⟨cs0, k1, k2⟩ := hel 0 (by omega)
          rw [cellsEd] at k1
          obtain ⟨_, klen, kcell⟩ := World.cells?_some k1
          have k3 := kcell 0 (by omega)
          rw [List.getElem?_eq_getElem (by omega)] at k3
          simpa [Addr.add] using World.cell?_spot k3
        subst hspot
        simp only [add_plain] at c0 c1 c2 c3
        have hbl : b < W.heap.size := hlt (.cell b off) (List.mem_append_left _ (MemPlace.mem_row.2 ⟨0, by rw [cellsEd]; omega, by simp⟩))
        exact ⟨⟨z0, z1, z2, z3⟩, rfl, hbl, rfl, ⟨by simpa using c0, by simpa using c1, by simpa using c2, by simpa using c3⟩, bd_i64 w0, bd_i64 w1, bd_i64 w2, bd_i64 w3⟩
    refine ⟨fun i => if h : i < len then (each i h).choose else ⟨0, 0, 0, 0⟩, fun j hj => ?_⟩
    have hq := (each j hj).choose_spec
    simp only [dif_pos hj]
    obtain ⟨hs, hbl, h3⟩ := hq
    have hs' : spot = none := hs
    subst hs'
    exact ⟨b, off, rfl, hbl, h3⟩

/-- As a list. -/
theorem ArgE.vwe {w : World} {o : Nat → Nat} {ao : Option Addr} {len cap : Nat} {f : Nat → EdT} (h : ArgE w o ao len f) (hc : len ≤ cap) (hm : cap ≤ maxLen) : VwE w o 0 (.slice ao len cap) ((List.range len).map f) := by
  have hl : ((List.range len).map f).length = len := by simp
  refine ⟨ao, cap, by rw [hl], by omega, hm, fun h0 => ?_⟩
  rw [hl] at h0
  obtain ⟨b, off, h1, h2, h3, _⟩ := h 0 h0
  refine ⟨b, off, h1, h3, h2, fun j hj => ?_⟩
  rw [hl] at hj
  obtain ⟨b', off', k1, k2, k3, k4, _⟩ := h j hj
  rw [h1] at k1
  simp only [Option.some.injEq, Addr.mk.injEq, and_true] at k1
  obtain ⟨rfl, rfl⟩ := k1
  rw [List.getElem_map, List.getElem_range]
  exact k4
theorem ArgE.i64s {w : World} {o : Nat → Nat} {ao : Option Addr} {len : Nat} {f : Nat → EdT} (h : ArgE w o ao len f) : ∀ x, x ∈ (List.range len).map f → i64 x.id ∧ i64 x.u ∧ i64 x.v ∧ i64 x.wt := fun x hx => by
  obtain ⟨j, hj, rfl⟩ := List.mem_map.1 hx
  obtain ⟨_, _, _, _, _, _, k⟩ := h j (List.mem_range.1 hj)
  exact k
end Go.Proofs.Ytanahbkkgppfnaa
