/- What Word and Parts of package pack answer, for every argument. -/
import Derived.Test.YtbpjpdnkebdanabDoorPlain
namespace Go.Proofs.YtbpjpdnkebdanabDoor
open Go.ChangeShapes Go.WideShapes Go.ChangeAt Go.RowKit
set_option linter.unusedVariables false

theorem ret_two {k l : IntKind} {a b c : Int} (h : a = b) : Ending.returned (.tuple #[.int k a, .int l c]) = .returned (.tuple #[.int k b, .int l c]) := by rw [h]

theorem word_yes (o a b : Int) (w : World) (hT : Tab w) (h1 : 0 ≤ o) (h2 : o ≤ 255) (h3 : 0 ≤ a) (h4 : a ≤ 268435455) (h5 : 0 ≤ b) (h6 : b ≤ 268435455) :
    Calls Tryd.prog 10 #[.int .i64 o, .int .i64 a, .int .i64 b] w fun e w' =>
      e = .returned (.tuple #[.int .u64 ((o * 268435456 + a) * 268435456 + b), .int .i64 0]) ∧ w' = w := by
  go_enter Tryd.func10, Tryd.ntmps10
  go_wp2_with fail
  refine (fits_yes0 o w hT h1 h2).mono ?_
  rintro e w1 ⟨rfl, rfl⟩
  go_wp2_with fail
  refine (fits_yes1 a _ hT h3 h4).mono ?_
  rintro e w1 ⟨rfl, rfl⟩
  go_wp2_with fail
  refine (fits_yes2 b _ hT h5 h6).mono ?_
  rintro e w1 ⟨rfl, rfl⟩
  go_wp2_with fail
  refine (lay0 o _ hT h1 h2).mono ?_
  rintro e w1 ⟨rfl, rfl⟩
  go_wp2_with fail
  refine (lay1 a _ hT h3 h4).mono ?_
  rintro e w1 ⟨rfl, rfl⟩
  go_wp2_with fail
  refine (lay2 b _ hT h5 h6).mono ?_
  rintro e w1 ⟨rfl, rfl⟩
  go_wp2
  go_ret2
  exact ⟨ret_two (word_eq o a b h1 h2 h3 h4 h5 h6), rfl⟩

/-- The numbers of a field within reach. -/
theorem word_no (o a b : Int) (w : World) (hT : Tab w) (o1 : -9223372036854775808 ≤ o) (o2 : o ≤ 9223372036854775807) (a1 : -9223372036854775808 ≤ a) (a2 : a ≤ 9223372036854775807)
    (b1 : -9223372036854775808 ≤ b) (b2 : b ≤ 9223372036854775807) (h : ¬ (0 ≤ o ∧ o ≤ 255 ∧ 0 ≤ a ∧ a ≤ 268435455 ∧ 0 ≤ b ∧ b ≤ 268435455)) :
    Calls Tryd.prog 10 #[.int .i64 o, .int .i64 a, .int .i64 b] w fun e w' =>
      e = .returned (.tuple #[.int .u64 0, .int .i64 12]) ∧ w' = w := by
  by_cases ho : 0 ≤ o ∧ o ≤ 255
  · by_cases ha : 0 ≤ a ∧ a ≤ 268435455
    · have hb : b < 0 ∨ 268435455 < b := by omega
      clear h
      go_enter Tryd.func10, Tryd.ntmps10
      go_wp2_with fail
      refine (fits_yes0 o w hT ho.1 ho.2).mono ?_
      rintro e w1 ⟨rfl, rfl⟩
      go_wp2_with fail
      refine (fits_yes1 a _ hT ha.1 ha.2).mono ?_
      rintro e w1 ⟨rfl, rfl⟩
      go_wp2_with fail
      refine (fits_no2 b _ hT b1 b2 hb).mono ?_
      rintro e w1 ⟨rfl, rfl⟩
      go_wp2
      go_ret2
      exact ⟨rfl, rfl⟩
    · have ha' : a < 0 ∨ 268435455 < a := by omega
      clear h ha
      go_enter Tryd.func10, Tryd.ntmps10
      go_wp2_with fail
      refine (fits_yes0 o w hT ho.1 ho.2).mono ?_
      rintro e w1 ⟨rfl, rfl⟩
      go_wp2_with fail
      refine (fits_no1 a _ hT a1 a2 ha').mono ?_
      rintro e w1 ⟨rfl, rfl⟩
      go_wp2
      go_ret2
      exact ⟨rfl, rfl⟩
  · have ho' : o < 0 ∨ 255 < o := by omega
    clear h ho
    go_enter Tryd.func10, Tryd.ntmps10
    go_wp2_with fail
    refine (fits_no0 o w hT o1 o2 ho').mono ?_
    rintro e w1 ⟨rfl, rfl⟩
    go_wp2
    go_ret2
    exact ⟨rfl, rfl⟩

theorem parts_any (u : Int) (w : World) (hT : Tab w) (h1 : 0 ≤ u) (h2 : u < 18446744073709551616) :
    Calls Tryd.prog 11 #[.int .u64 u] w fun e w' =>
      e = .returned (.tuple #[.int .i64 (u / 72057594037927936), .int .i64 (u / 268435456 % 268435456), .int .i64 (u % 268435456)]) ∧ Below w.heap.size w w' := by
  go_enter Tryd.func11, Tryd.ntmps11
  go_wp2_with fail
  refine (part0 u w hT h1 h2).mono ?_
  rintro e w1 ⟨rfl, hb1⟩
  have hT1 := hT.below hb1
  go_wp2_with fail
  refine (part1 u w1 hT1 h1 h2).mono ?_
  rintro e w2 ⟨rfl, hb2⟩
  have hT2 := hT1.below hb2
  go_wp2_with fail
  refine (part2 u w2 hT2 h1 h2).mono ?_
  rintro e w3 ⟨rfl, hb3⟩
  go_wp2
  go_ret3
  exact ⟨rfl, bjoin (bjoin hb1 hb2) hb3⟩

/-- One field of the table, opened. -/
theorem field_cells {W : World} {m : Nat} {l : List Value} {a b : Int} {p : List MemPlace}
    (h : DataW.trod (fun _ => ()) Tryd.prog W 0 (fun _ => true) false m 43 l = some (.agg [.lit (.int .u64 a), .lit (.int .u64 b)], p)) : l = [.int .u64 a, .int .u64 b] := by
  obtain ⟨y0, y1, n, hx, hl, h0, h1⟩ := trod_struct2 Tryd.underlying43 h
  simp only [Prod.mk.injEq, DataW.agg.injEq, List.cons.injEq, and_true] at hx
  obtain ⟨⟨e0, e1⟩, _⟩ := hx
  obtain ⟨z0, c0, r0, _⟩ := DataW.trod_int Tryd.underlying37 h0
  obtain ⟨z1, c1, r1, _⟩ := DataW.trod_int Tryd.underlying22 h1
  subst r0 r1
  simp only [DataW.lit.injEq, Lit.int.injEq, true_and] at e0 e1
  subst e0 e1
  rw [cellsField] at hl
  simp only [cellsUint, cellsUint64] at c0 c1
  match l, hl with
  | [v0, v1], _ =>
    simp at c0 c1
    rw [c0, c1]

/-- What the list of the row gives. -/
theorem tab_of_laid {W : World} (h : laidMet Tryd.prog [("isthmus/pack.fields", Rows.laid_isthmus_pack_fields)] W) : Tab W := by
  obtain ⟨ps, ⟨g', t', cs, fuel, p, q, hg', ht', hvar, hd, _, _⟩, _⟩ := h
  obtain rfl := Option.some.inj (gTab.symm.trans hg')
  obtain rfl := Option.some.inj (gTabType.symm.trans ht')
  obtain ⟨xs, m, _, hx, hl, hlen, hf⟩ := DataW.trod_array Tryd.underlying44 hd
  rw [cellsTab] at hl
  simp only [cellsField] at hf
  match xs, hlen with
  | [x0, x1, x2], _ =>
    have f0 := hf 0 (by omega)
    have f1 := hf 1 (by omega)
    have f2 := hf 2 (by omega)
    simp only [Rows.laid_isthmus_pack_fields, List.map_cons, List.map_nil, Prod.mk.injEq, DataW.agg.injEq, List.cons.injEq, and_true] at hx
    obtain ⟨⟨e0, e1, e2⟩, _⟩ := hx
    obtain ⟨d0, p0⟩ := x0
    obtain ⟨d1, p1⟩ := x1
    obtain ⟨d2, p2⟩ := x2
    simp only at e0 e1 e2
    subst e0 e1 e2
    have g0 := field_cells f0
    have g1 := field_cells f1
    have g2 := field_cells f2
    obtain ⟨l⟩ := cs
    match l, hl with
    | [v0, v1, v2, v3, v4, v5], _ =>
      simp at g0 g1 g2
      obtain ⟨rfl, rfl⟩ := g0
      obtain ⟨rfl, rfl⟩ := g1
      obtain ⟨rfl, rfl⟩ := g2
      have hc := fun i => World.var?_cell gTab hvar i
      have c0 := hc 0
      have c1 := hc 1
      have c2 := hc 2
      have c3 := hc 3
      have c4 := hc 4
      have c5 := hc 5
      simp at c0 c1 c2 c3 c4 c5
      refine ⟨c0, c1, c2, c3, c4, c5, ?_⟩
      by_cases hs : 0 < W.heap.size
      · exact hs
      · exfalso
        have : W.heap[0]? = none := Array.getElem?_eq_none (by omega)
        simp [World.cell?, this] at c0

end Go.Proofs.YtbpjpdnkebdanabDoor
