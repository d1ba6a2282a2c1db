/- A script that came in, opened to its cells. -/
import Derived.Test.YthnocaiehhcdeaaItsArg
import Derived.Test.YthnocaiehhcdeaaOpsBase
import Derived.Deep.Slices
namespace Go.Proofs.Ythnocaiehhcdeaa
open Go.ChangeShapes Go.WideShapes Go.ChangeAt Go.RowKit
set_option linter.unusedVariables false

theorem cellsOp : Try.prog.cellsOf 38 = 7 := by kernel_rfl
theorem bytesOp : Try.prog.bytesOf 38 = 56 := by kernel_rfl

set_option maxRecDepth 100000 in
theorem open_ops {H : Type} {enc : TypeId × Value → H} {W : World} {v : Value} {d : DataW H} {ps : List MemPlace} {ao : Option Addr} {len cap : Nat} (hv : v = .slice ao len cap)
    (h : DataW.Trod enc Try.prog W 0 (fun _ => true) true 22 v d ps) (hlt : ∀ x ∈ ps, x.block < W.heap.size) :
    (∃ f, ArgOps W o0 ao len f) ∧ ((d = .nil ∧ len = 0) ∨ ∃ es sp, d = .slice es sp ∧ es.length + sp.length = cap ∧ len ≤ cap) := by
  subst hv
  obtain ⟨fuel, hf⟩ := h
  rcases Go.Deep.open_slice Try.underlying22 hf with ⟨hcs, hx⟩ | ⟨a, len', cap', m, n, D, Pl, hcs, _, hl, hm, hmm, hx, hel⟩
  · simp [Value.cells] at hcs
    obtain ⟨rfl, rfl, rfl⟩ := hcs
    simp only [Prod.mk.injEq] at hx
    exact ⟨⟨fun _ => ⟨0, 0, 0, 0, false, 0, false⟩, fun j hj => by omega⟩, .inl ⟨hx.1, rfl⟩⟩
  · simp [Value.cells] at hcs
    obtain ⟨rfl, rfl, rfl⟩ := hcs
    simp only [Prod.mk.injEq] at hx
    obtain ⟨rfl, rfl⟩ := hx
    simp only [if_true] at hmm
    subst hmm
    refine ⟨?_, .inr ⟨_, _, rfl, by simp; omega, hl⟩⟩
    obtain ⟨b, off, spot⟩ := a
    have each : ∀ i, i < len → ∃ q : OpR, (⟨b, off, spot⟩ : Addr).spot = none ∧ b < W.heap.size ∧ o0 b = 0 ∧ W.cell? ⟨b, off + i * 7, none⟩ = some (.int .i64 q.kd) ∧ W.cell? ⟨b, off + i * 7 + 1, none⟩ = some (.int .i64 q.a) ∧ W.cell? ⟨b, off + i * 7 + 2, none⟩ = some (.int .i64 q.b) ∧ W.cell? ⟨b, off + i * 7 + 3, none⟩ = some (.int .i64 q.v) ∧ W.cell? ⟨b, off + i * 7 + 4, none⟩ = some (.bool q.c) ∧ W.cell? ⟨b, off + i * 7 + 5, none⟩ = some (.int .i64 q.f) ∧ W.cell? ⟨b, off + i * 7 + 6, none⟩ = some (.bool q.ot) := by
      intro i hi
      obtain ⟨cs', h1, h2⟩ := hel i (by omega)
      rw [cellsOp] at h1
      obtain ⟨_, hlen, hcell⟩ := World.cells?_some h1
      obtain ⟨xs, k, hk, hxy, _, hxl, hff⟩ := DataW.trod_struct Try.underlying38 h2
      match xs, hxl, cs', hlen with
      | [y0, y1, y2, y3, y4], _, [u0, u1, u2, u3, u4, u5, u6], _ =>
        have g0 := hff 0 _ rfl
        have g1 := hff 1 _ rfl
        have g2 := hff 2 _ rfl
        have g3 := hff 3 _ rfl
        have g4 := hff 4 _ rfl
        simp [cellsInt, cellsBool, cellsItem] at g0 g1 g2 g3 g4
        obtain ⟨z0, e0, _, _⟩ := DataW.trod_int Try.underlying3 g0
        obtain ⟨z1, e1, _, _⟩ := DataW.trod_int Try.underlying3 g1
        obtain ⟨z2, e2, _, _⟩ := DataW.trod_int Try.underlying3 g2
        obtain ⟨xs3, k3, hk3, hxy3, _, hxl3, hff3⟩ := DataW.trod_struct Try.underlying36 g3
        obtain ⟨z6, e6, _⟩ := DataW.trod_bool Try.underlying4 g4
        match xs3, hxl3 with
        | [v0, v1, v2], _ =>
          have f0 := hff3 0 _ rfl
          have f1 := hff3 1 _ rfl
          have f2 := hff3 2 _ rfl
          simp [cellsInt, cellsBool] at f0 f1 f2
          obtain ⟨z3, e3, _, _⟩ := DataW.trod_int Try.underlying3 f0
          obtain ⟨z4, e4, _⟩ := DataW.trod_bool Try.underlying4 f1
          obtain ⟨z5, e5, _, _⟩ := DataW.trod_int Try.underlying3 f2
          simp at e0 e1 e2 e3 e4 e5 e6
          subst e0 e1 e2 e3 e4 e5 e6
          have c0 := hcell 0 (by omega)
          have c1 := hcell 1 (by omega)
          have c2 := hcell 2 (by omega)
          have c3 := hcell 3 (by omega)
          have c4 := hcell 4 (by omega)
          have c5 := hcell 5 (by omega)
          have c6 := hcell 6 (by omega)
          have hspot : spot = none := by
            obtain ⟨cs0, k1, k2⟩ := hel 0 (by omega)
            rw [cellsOp] at k1
            obtain ⟨_, klen, kcell⟩ := World.cells?_some k1
            have k3 := kcell 0 (by omega)
            rw [List.getElem?_eq_getElem (by omega)] at k3
            simpa [Addr.add] using World.cell?_spot k3
          subst hspot
          simp only [add_plain] at c0 c1 c2 c3 c4 c5 c6
          have hbl : b < W.heap.size := hlt (.cell b off) (List.mem_append_left _ (MemPlace.mem_row.2 ⟨0, by rw [cellsOp]; omega, by simp⟩))
          exact ⟨⟨z0, z1, z2, z3, z4, z5, z6⟩, rfl, hbl, rfl, by simpa using c0, by simpa using c1, by simpa using c2, by simpa using c3, by simpa using c4, by simpa using c5, by simpa using c6⟩
    refine ⟨fun i => if h : i < len then (each i h).choose else ⟨0, 0, 0, 0, false, 0, false⟩, fun j hj => ?_⟩
    have hq := (each j hj).choose_spec
    simp only [dif_pos hj]
    obtain ⟨hs, hbl, h3⟩ := hq
    have hs' : spot = none := hs
    subst hs'
    exact ⟨b, off, rfl, hbl, h3⟩

end Go.Proofs.Ythnocaiehhcdeaa
