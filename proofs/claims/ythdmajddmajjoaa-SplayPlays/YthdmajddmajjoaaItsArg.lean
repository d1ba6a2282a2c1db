/- Slices of items that came in, opened to their cells. -/
import Derived.Test.YthdmajddmajjoaaLaw
import Derived.SizedLaws
import Derived.Deep.RegionHeld3
import Derived.Deep.Slices
namespace Go.Proofs.Ythdmajddmajjoaa
open Go.ChangeShapes Go.WideShapes Go.ChangeAt Go.RowKit
set_option linter.unusedVariables false

theorem own : ownKnob Try.prog.godebug = none := by kernel_rfl
theorem laidOut : laidOutB Try.prog = true := by kernel_rfl
theorem cellsInt : Try.prog.cellsOf 3 = 1 := by kernel_rfl
theorem bytesInt : Try.prog.bytesOf 3 = 8 := by kernel_rfl
theorem bd_i64 {a : Int} (h : (Lit.int .i64 a).wf = true) : -9223372036854775808 ≤ a ∧ a ≤ 9223372036854775807 := by
  simpa [Lit.wf, IntKind.min, IntKind.max, IntKind.signed, IntKind.bits] using h

/-- A slice of numbers that came in, opened: its cells, its reach is asked apart. -/
theorem open_arg {H : Type} {enc : TypeId × Value → H} {W : World} {v : Value} {d : DataW H} {ps : List MemPlace} {ao : Option Addr} {len cap : Nat} (hv : v = .slice ao len cap)
    (h : DataW.Trod enc Try.prog W 0 (fun _ => true) true 60 v d ps) (hlt : ∀ x ∈ ps, x.block < W.heap.size) :
    (∃ z, Arg W ao len z) ∧ ((d = .nil ∧ len = 0) ∨ ∃ es sp, d = .slice es sp ∧ es.length + sp.length = cap ∧ len ≤ cap) := by
  subst hv
  obtain ⟨fuel, hf⟩ := h
  rcases open_ints Try.underlying60 Try.underlying3 cellsInt hf with ⟨hcs, hx⟩ | ⟨a, len', cap', zs, hcs, _, hl, hm, hz, hx, hcell, hwz⟩
  · simp [Value.cells] at hcs
    obtain ⟨rfl, rfl, rfl⟩ := hcs
    simp only [Prod.mk.injEq] at hx
    exact ⟨⟨fun _ => 0, fun j hj => by omega⟩, .inl ⟨hx.1, rfl⟩⟩
  · simp [Value.cells] at hcs
    obtain ⟨rfl, rfl, rfl⟩ := hcs
    simp only [Prod.mk.injEq] at hx
    obtain ⟨rfl, rfl⟩ := hx
    simp only [if_true] at hz
    refine ⟨⟨fun j => zs.getD j 0, fun j hj => ?_⟩, .inr ⟨_, _, rfl, by simp [lits]; omega, hl⟩⟩
    obtain ⟨b, off, spot⟩ := a
    have hspot : spot = none := by simpa [Addr.add] using World.cell?_spot (hcell 0 (by omega))
    subst hspot
    have hbW : b < W.heap.size := hlt (.cell b off) (MemPlace.mem_row.2 ⟨0, by omega, by simp⟩)
    have hw := bd_i64 (hwz (zs.getD j 0) (by rw [List.getD_eq_getElem?_getD, List.getElem?_eq_getElem (by omega)]; exact List.getElem_mem _))
    exact ⟨b, off, rfl, hbW, by rw [← add_plain]; exact hcell j (by omega), hw.1, hw.2⟩

end Go.Proofs.Ythdmajddmajjoaa
namespace Go.Proofs.Ythdmajddmajjoaa
open Go.ChangeShapes Go.WideShapes Go.ChangeAt Go.RowKit
set_option linter.unusedVariables false

/-- A raw item that came in. -/
structure RawIt where
  v : Int
  c : Bool
  f : Int
/-- A slice of raw items that came in, only read. -/
def ArgIts (w : World) (ao : Option Addr) (len : Nat) (f : Nat → RawIt) : Prop :=
  ∀ j, j < len → ∃ b off, ao = some ⟨b, off, none⟩ ∧ b < w.heap.size ∧ w.cell? ⟨b, off + j * 3, none⟩ = some (.int .i64 (f j).v) ∧ w.cell? ⟨b, off + j * 3 + 1, none⟩ = some (.bool (f j).c) ∧ w.cell? ⟨b, off + j * 3 + 2, none⟩ = some (.int .i64 (f j).f) ∧ (-9223372036854775808 ≤ (f j).v ∧ (f j).v ≤ 9223372036854775807) ∧ (-9223372036854775808 ≤ (f j).f ∧ (f j).f ≤ 9223372036854775807)
theorem ArgIts.below {w w' : World} {ao : Option Addr} {len : Nat} {f : Nat → RawIt} (h : ArgIts w ao len f) (hb : Below w.heap.size w w') : ArgIts w' ao len f := by
  intro j hj
  obtain ⟨b, off, h1, h2, h3, h4, h5, h6⟩ := h j hj
  exact ⟨b, off, h1, Nat.lt_of_lt_of_le h2 hb.size, (hb.cell (p := ⟨b, off + j * 3, none⟩) h2).trans h3, (hb.cell (p := ⟨b, off + j * 3 + 1, none⟩) h2).trans h4, (hb.cell (p := ⟨b, off + j * 3 + 2, none⟩) h2).trans h5, h6⟩

/-- Items, as they lie in a slice. -/
def itsL : List It → List Value
  | [] => []
  | x :: xs => .int .i64 x.v :: .bool x.c :: .int .i64 x.f :: itsL xs
theorem itsL_append (xs ys : List It) : itsL (xs ++ ys) = itsL xs ++ itsL ys := by
  induction xs with
  | nil => rfl
  | cons x xs ih => simp [itsL, ih]
theorem itsL_length (xs : List It) : (itsL xs).length = xs.length * 3 := by
  induction xs with
  | nil => rfl
  | cons x xs ih => simp [itsL, ih]; omega
theorem itsL_get : ∀ (xs : List It) (j : Nat) (hj : j < xs.length), (itsL xs)[j * 3]? = some (.int .i64 xs[j].v) ∧ (itsL xs)[j * 3 + 1]? = some (.bool xs[j].c) ∧ (itsL xs)[j * 3 + 2]? = some (.int .i64 xs[j].f)
  | x :: xs, 0, _ => ⟨rfl, rfl, rfl⟩
  | x :: xs, j + 1, hj => by
    have := itsL_get xs j (by simpa using hj)
    have e : (j + 1) * 3 = j * 3 + 3 := by omega
    rw [e]
    simpa [itsL] using this

theorem infoItem : (Try.prog.info? 36).map (fun i => (i.zero, i.size, i.bytes)) = some (some (.agg #[.int .i64 0, .bool false, .int .i64 0]), 3, 24) := by kernel_rfl

theorem new_three_at {w : World} {s : Nat} (hs : w.heap.size = s) (x y z : Value) (t : TypeId) : ∀ j u, [x, y, z][j]? = some u → (w.alloc (.cells #[x, y, z] t)).cell? ((⟨s, 0, none⟩ : Addr).add j) = some u := by
  subst hs
  intro j u hj
  match j, hj with
  | 0, hj => simp at hj; subst hj; simp [Addr.add]
  | 1, hj => simp at hj; subst hj; simp [Addr.add]
  | 2, hj => simp at hj; subst hj; simp [Addr.add]

/-- What items leaves. -/
def ItemsOut (w : World) (o : Nat → Nat) (most lb : Nat) (e : Ending) (w' : World) : Prop := ∃ v its o', e = .returned v ∧ (0 < its.length ∧ its.length ≤ most) ∧ (∀ x ∈ its, It.may x) ∧ Row w' o' lb 36 3 v its.length (itsL its) ∧ Step (fun k => k = lb) w o w' o'

end Go.Proofs.Ythdmajddmajjoaa
namespace Go.Proofs.Ythdmajddmajjoaa
open Go.ChangeShapes Go.WideShapes Go.ChangeAt Go.RowKit
set_option linter.unusedVariables false

theorem cellsItem : Try.prog.cellsOf 36 = 3 := by kernel_rfl
theorem cellsBool : Try.prog.cellsOf 4 = 1 := by kernel_rfl
theorem bytesItem : Try.prog.bytesOf 36 = 24 := by kernel_rfl

set_option maxRecDepth 100000 in
theorem open_its {H : Type} {enc : TypeId × Value → H} {W : World} {v : Value} {d : DataW H} {ps : List MemPlace} {ao : Option Addr} {len cap : Nat} (hv : v = .slice ao len cap)
    (h : DataW.Trod enc Try.prog W 0 (fun _ => true) true 59 v d ps) (hlt : ∀ x ∈ ps, x.block < W.heap.size) :
    (∃ f, ArgIts W ao len f) ∧ ((d = .nil ∧ len = 0) ∨ ∃ es sp, d = .slice es sp ∧ es.length + sp.length = cap ∧ len ≤ cap) := by
  subst hv
  obtain ⟨fuel, hf⟩ := h
  rcases Go.Deep.open_slice Try.underlying59 hf with ⟨hcs, hx⟩ | ⟨a, len', cap', m, n, D, Pl, hcs, _, hl, hm, hmm, hx, hel⟩
  · simp [Value.cells] at hcs
    obtain ⟨rfl, rfl, rfl⟩ := hcs
    simp only [Prod.mk.injEq] at hx
    exact ⟨⟨fun _ => ⟨0, false, 0⟩, fun j hj => by omega⟩, .inl ⟨hx.1, rfl⟩⟩
  · simp [Value.cells] at hcs
    obtain ⟨rfl, rfl, rfl⟩ := hcs
    simp only [Prod.mk.injEq] at hx
    obtain ⟨rfl, rfl⟩ := hx
    simp only [if_true] at hmm
    subst hmm
    refine ⟨?_, .inr ⟨_, _, rfl, by simp; omega, hl⟩⟩
    obtain ⟨b, off, spot⟩ := a
    have each : ∀ i, i < len → ∃ q : RawIt, (⟨b, off, spot⟩ : Addr).spot = none ∧ b < W.heap.size ∧ W.cell? ⟨b, off + i * 3, none⟩ = some (.int .i64 q.v) ∧ W.cell? ⟨b, off + i * 3 + 1, none⟩ = some (.bool q.c) ∧ W.cell? ⟨b, off + i * 3 + 2, none⟩ = some (.int .i64 q.f) ∧ (-9223372036854775808 ≤ q.v ∧ q.v ≤ 9223372036854775807) ∧ (-9223372036854775808 ≤ q.f ∧ q.f ≤ 9223372036854775807) := by
      intro i hi
      obtain ⟨cs', h1, h2⟩ := hel i (by omega)
      rw [cellsItem] at h1
      obtain ⟨_, hlen, hcell⟩ := World.cells?_some h1
      obtain ⟨xs, k, hk, hxy, _, hxl, hff⟩ := DataW.trod_struct Try.underlying36 h2
      match xs, hxl, cs', hlen with
      | [y0, y1, y2], _, [u0, u1, u2], _ =>
        have g0 := hff 0 _ rfl
        have g1 := hff 1 _ rfl
        have g2 := hff 2 _ rfl
        simp [cellsInt, cellsBool] at g0 g1 g2
        obtain ⟨z0, e0, _, w0⟩ := DataW.trod_int Try.underlying3 g0
        obtain ⟨z1, e1, _⟩ := DataW.trod_bool Try.underlying4 g1
        obtain ⟨z2, e2, _, w2⟩ := DataW.trod_int Try.underlying3 g2
        simp at e0 e1 e2
        subst e0 e1 e2
        have c0 := hcell 0 (by omega)
        have c1 := hcell 1 (by omega)
        have c2 := hcell 2 (by omega)
        have hspot : spot = none := by
          obtain ⟨cs0, k1, k2⟩ := hel 0 (by omega)
          rw [cellsItem] at k1
          obtain ⟨_, klen, kcell⟩ := World.cells?_some k1
          have k3 := kcell 0 (by omega)
          rw [List.getElem?_eq_getElem (by omega)] at k3
          simpa [Addr.add] using World.cell?_spot k3
        subst hspot
        simp only [add_plain] at c0 c1 c2
        have hbl : b < W.heap.size := hlt (.cell b off) (List.mem_append_left _ (MemPlace.mem_row.2 ⟨0, by rw [cellsItem]; omega, by simp⟩))
        exact ⟨⟨z0, z1, z2⟩, rfl, hbl, by simpa using c0, by simpa using c1, by simpa using c2, bd_i64 w0, bd_i64 w2⟩
    refine ⟨fun i => if h : i < len then (each i h).choose else ⟨0, false, 0⟩, fun j hj => ?_⟩
    have hq := (each j hj).choose_spec
    simp only [dif_pos hj]
    obtain ⟨hs, hbl, h3⟩ := hq
    have hs' : spot = none := hs
    subst hs'
    exact ⟨b, off, rfl, hbl, h3⟩

end Go.Proofs.Ythdmajddmajjoaa
