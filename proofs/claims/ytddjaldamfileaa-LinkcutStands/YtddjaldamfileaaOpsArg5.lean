/- A script of linked trees that came in, opened to its cells. -/
import Derived.Test.YtddjaldamfileaaRowK5
import Derived.Deep.Slices
namespace Go.Proofs.Ytddjaldamfileaa
open Go.ChangeShapes Go.WideShapes Go.ChangeAt Go.RowKit
set_option linter.unusedVariables false

/-- A call as it came in. -/
structure OpT where
  kd : Int
  u : Int
  v : Int
  id : Int
  wt : Int
  ot : Bool
def i64 (x : Int) : Prop := -9223372036854775808 ≤ x ∧ x ≤ 9223372036854775807
/-- A script that came in, only read. -/
def ArgOps (w : World) (o : Nat → Nat) (ao : Option Addr) (len : Nat) (f : Nat → OpT) : Prop :=
  ∀ j, j < len → ∃ b off, ao = some ⟨b, off, none⟩ ∧ b < w.heap.size ∧ o b = 0 ∧ (w.cell? ⟨b, off + j * 6, none⟩ = some (.int .i64 (f j).kd) ∧ w.cell? ⟨b, off + j * 6 + 1, none⟩ = some (.int .i64 (f j).u) ∧ w.cell? ⟨b, off + j * 6 + 2, none⟩ = some (.int .i64 (f j).v) ∧ w.cell? ⟨b, off + j * 6 + 3, none⟩ = some (.int .i64 (f j).id) ∧ w.cell? ⟨b, off + j * 6 + 4, none⟩ = some (.int .i64 (f j).wt) ∧ w.cell? ⟨b, off + j * 6 + 5, none⟩ = some (.bool (f j).ot)) ∧ i64 (f j).kd ∧ i64 (f j).u ∧ i64 (f j).v ∧ i64 (f j).id ∧ i64 (f j).wt
theorem ArgOps.step {I : Nat → Prop} {w w' : World} {o o' : Nat → Nat} {ao : Option Addr} {len : Nat} {f : Nat → OpT} (h : ArgOps w o ao len f) (s : Step I w o w' o') (hi : ¬ I 0) : ArgOps w' o' ao len f := by
  intro j hj
  obtain ⟨b, off, h1, h2, h3, ⟨c0, c1, c2, c3, c4, c5⟩, hb⟩ := h j hj
  have hc := fun k => s.cell h2 (by rw [h3]; exact hi) k
  exact ⟨b, off, h1, Nat.lt_of_lt_of_le h2 s.size, (s.lab b h2).trans h3, ⟨(hc _).trans c0, (hc _).trans c1, (hc _).trans c2, (hc _).trans c3, (hc _).trans c4, (hc _).trans c5⟩, hb⟩

theorem cellsBool : Try.prog.cellsOf 4 = 1 := by kernel_rfl
theorem cellsOp : Try.prog.cellsOf 36 = 6 := by kernel_rfl
theorem bytesOp : Try.prog.bytesOf 36 = 48 := by kernel_rfl

set_option maxRecDepth 100000 in
theorem open_ops {H : Type} {enc : TypeId × Value → H} {W : World} {v : Value} {d : DataW H} {ps : List MemPlace} {ao : Option Addr} {len cap : Nat} (hv : v = .slice ao len cap)
    (h : DataW.Trod enc Try.prog W 0 (fun _ => true) true 22 v d ps) (hlt : ∀ x ∈ ps, x.block < W.heap.size) :
    (∃ f, ArgOps W o0 ao len f) ∧ ((d = .nil ∧ len = 0) ∨ ∃ es sp, d = .slice es sp ∧ es.length + sp.length = cap ∧ len ≤ cap) := by
  subst hv
  obtain ⟨fuel, hf⟩ := h
  rcases Go.Deep.open_slice Try.underlying22 hf with ⟨hcs, hx⟩ | ⟨a, len', cap', m, n, D, Pl, hcs, _, hl, hm, hmm, hx, hel⟩
  · simp [Value.cells] at hcs
    obtain ⟨rfl, rfl, rfl⟩ := hcs
    simp only [Prod.mk.injEq] at hx
    exact ⟨⟨fun _ => ⟨0, 0, 0, 0, 0, false⟩, fun j hj => by omega⟩, .inl ⟨hx.1, rfl⟩⟩
  · simp [Value.cells] at hcs
    obtain ⟨rfl, rfl, rfl⟩ := hcs
    simp only [Prod.mk.injEq] at hx
    obtain ⟨rfl, rfl⟩ := hx
    simp only [if_true] at hmm
    subst hmm
    refine ⟨?_, .inr ⟨_, _, rfl, by simp; omega, hl⟩⟩
    obtain ⟨b, off, spot⟩ := a
    have each : ∀ i, i < len → ∃ q : OpT, (⟨b, off, spot⟩ : Addr).spot = none ∧ b < W.heap.size ∧ o0 b = 0 ∧ (W.cell? ⟨b, off + i * 6, none⟩ = some (.int .i64 q.kd) ∧ W.cell? ⟨b, off + i * 6 + 1, none⟩ = some (.int .i64 q.u) ∧ W.cell? ⟨b, off + i * 6 + 2, none⟩ = some (.int .i64 q.v) ∧ W.cell? ⟨b, off + i * 6 + 3, none⟩ = some (.int .i64 q.id) ∧ W.cell? ⟨b, off + i * 6 + 4, none⟩ = some (.int .i64 q.wt) ∧ W.cell? ⟨b, off + i * 6 + 5, none⟩ = some (.bool q.ot)) ∧ i64 q.kd ∧ i64 q.u ∧ i64 q.v ∧ i64 q.id ∧ i64 q.wt := by
      intro i hi
      obtain ⟨cs', h1, h2⟩ := hel i (by omega)
      rw [cellsOp] at h1
      obtain ⟨_, hlen, hcell⟩ := World.cells?_some h1
      obtain ⟨xs, k, hk, hxy, _, hxl, hff⟩ := DataW.trod_struct Try.underlying36 h2
      match xs, hxl, cs', hlen with
      | [y0, y1, y2, y3, y4, y5], _, [u0, u1, u2, u3, u4, u5], _ =>
        have g0 := hff 0 _ rfl
        have g1 := hff 1 _ rfl
        have g2 := hff 2 _ rfl
        have g3 := hff 3 _ rfl
        have g4 := hff 4 _ rfl
        have g5 := hff 5 _ rfl
        simp [cellsInt, cellsBool] at g0 g1 g2 g3 g4 g5
        obtain ⟨z0, e0, _, w0⟩ := DataW.trod_int Try.underlying3 g0
        obtain ⟨z1, e1, _, w1⟩ := DataW.trod_int Try.underlying3 g1
        obtain ⟨z2, e2, _, w2⟩ := DataW.trod_int Try.underlying3 g2
        obtain ⟨z3, e3, _, w3⟩ := DataW.trod_int Try.underlying3 g3
        obtain ⟨z4, e4, _, w4⟩ := DataW.trod_int Try.underlying3 g4
        obtain ⟨z5, e5, _⟩ := DataW.trod_bool Try.underlying4 g5
        simp at e0 e1 e2 e3 e4 e5
        subst e0 e1 e2 e3 e4 e5
        have c0 := hcell 0 (by omega)
        have c1 := hcell 1 (by omega)
        have c2 := hcell 2 (by omega)
        have c3 := hcell 3 (by omega)
        have c4 := hcell 4 (by omega)
        have c5 := hcell 5 (by omega)
        have hspot : spot = none := by
          obtain ⟨cs0, k1, k2⟩ := hel 0 (by omega)
          rw [cellsOp] at k1
          obtain ⟨_, klen, kcell⟩ := World.cells?_some k1
          have k3 := kcell 0 (by omega)
          rw [List.getElem?_eq_getElem (by omega)] at k3
          simpa [Addr.add] using World.cell?_spot k3
        subst hspot
        simp only [add_plain] at c0 c1 c2 c3 c4 c5
        have hbl : b < W.heap.size := hlt (.cell b off) (List.mem_append_left _ (MemPlace.mem_row.2 ⟨0, by rw [cellsOp]; omega, by simp⟩))
        exact ⟨⟨z0, z1, z2, z3, z4, z5⟩, rfl, hbl, rfl, ⟨by simpa using c0, by simpa using c1, by simpa using c2, by simpa using c3, by simpa using c4, by simpa using c5⟩, bd_i64 w0, bd_i64 w1, bd_i64 w2, bd_i64 w3, bd_i64 w4⟩
    refine ⟨fun i => if h : i < len then (each i h).choose else ⟨0, 0, 0, 0, 0, false⟩, fun j hj => ?_⟩
    have hq := (each j hj).choose_spec
    simp only [dif_pos hj]
    obtain ⟨hs, hbl, h3⟩ := hq
    have hs' : spot = none := hs
    subst hs'
    exact ⟨b, off, rfl, hbl, h3⟩

end Go.Proofs.Ytddjaldamfileaa
