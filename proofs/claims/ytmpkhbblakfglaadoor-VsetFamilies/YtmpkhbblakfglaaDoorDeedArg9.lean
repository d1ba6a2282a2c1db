/- A script of VsetFamilies that came in, opened to its cells. -/
import Derived.Test.YtmpkhbblakfglaaDoorRowK9
import Derived.Deep.Slices
import Derived.SizedLaws
namespace Go.Proofs.YtmpkhbblakfglaaDoor
open Go.ChangeShapes Go.WideShapes Go.ChangeAt Go.RowKit
set_option linter.unusedVariables false

/-- One step of a script, as it lies in memory. -/
structure DeV where
  kd : Int
  n : Int
  s : ByteArray
  ao : Option Addr
  len : Nat
  cap : Nat
  f : Nat → Int
  ot : Bool
/-- What is known of one step that came in. -/
structure DeOk (w : World) (q : DeV) (bl k : Nat) : Prop where
  c0 : w.cell? ⟨bl, k, none⟩ = some (.int .i64 q.kd)
  c1 : w.cell? ⟨bl, k + 1, none⟩ = some (.int .i64 q.n)
  c2 : w.cell? ⟨bl, k + 2, none⟩ = some (.string q.s)
  c3 : w.cell? ⟨bl, k + 3, none⟩ = some (.slice q.ao q.len q.cap)
  c4 : w.cell? ⟨bl, k + 4, none⟩ = some (.bool q.ot)
  sz : q.s.size ≤ maxLen
  i : Ints w q.ao q.len q.f
  l : q.len ≤ maxLen
def ArgDe9 (w : World) (ao : Option Addr) (len : Nat) (q : Nat → DeV) : Prop :=
  ∀ j, j < len → ∃ bl off, ao = some ⟨bl, off, none⟩ ∧ bl < w.heap.size ∧ DeOk w (q j) bl (off + j * 5)
theorem DeOk.below {w w' : World} {q : DeV} {bl k : Nat} (h : DeOk w q bl k) (hl : bl < w.heap.size) (hb : Below w.heap.size w w') : DeOk w' q bl k :=
  ⟨(hb.cell (p := ⟨bl, k, none⟩) hl).trans h.c0, (hb.cell (p := ⟨bl, k + 1, none⟩) hl).trans h.c1, (hb.cell (p := ⟨bl, k + 2, none⟩) hl).trans h.c2, (hb.cell (p := ⟨bl, k + 3, none⟩) hl).trans h.c3, (hb.cell (p := ⟨bl, k + 4, none⟩) hl).trans h.c4, h.sz, h.i.below hb (Nat.le_refl _), h.l⟩
theorem ArgDe9.below {w w' : World} {ao : Option Addr} {len : Nat} {q : Nat → DeV} (h : ArgDe9 w ao len q) (hb : Below w.heap.size w w') : ArgDe9 w' ao len q := fun j hj => by
  obtain ⟨bl, off, h1, h2, h3⟩ := h j hj
  exact ⟨bl, off, h1, Nat.lt_of_lt_of_le h2 hb.size, h3.below h2 hb⟩
theorem cellsDe9 : Tryd.prog.cellsOf 37 = 5 := by kernel_rfl
theorem cellsSlD9 : Tryd.prog.cellsOf 35 = 1 := by kernel_rfl
theorem cellsStrD9 : Tryd.prog.cellsOf 9 = 1 := by kernel_rfl
theorem cellsBoolD9 : Tryd.prog.cellsOf 4 = 1 := by kernel_rfl
theorem bytesDe9 : Tryd.prog.bytesOf 37 = 64 := by kernel_rfl
theorem weights_mem_allD {H : Type} {P : Program} {e : TypeId} : ∀ {ds : List (DataW H)} {d : DataW H}, d ∈ ds → ∀ n ∈ d.weights P e, n ∈ DataW.weightsAll P e ds
  | d0 :: ds, d, hd, n, hn => by
    simp only [DataW.weightsAll, List.mem_append]
    rcases List.mem_cons.1 hd with rfl | h
    · exact .inl hn
    · exact .inr (weights_mem_allD h n hn)
set_option maxRecDepth 100000 in
theorem open_deeds9 {H : Type} {enc : TypeId × Value → H} {W : World} {v : Value} {d : DataW H} {ps : List MemPlace} {ao : Option Addr} {len cap : Nat} (hv : v = .slice ao len cap)
    (h : DataW.Trod enc Tryd.prog W 0 (fun _ => true) true 22 v d ps) (hlt : ∀ x ∈ ps, x.block < W.heap.size) (hwt : ∀ n ∈ d.weights Tryd.prog 22, n ≤ reachBytes) :
    len * 64 ≤ 140737488351232 ∧ ∃ q, ArgDe9 W ao len q := by
  subst hv
  obtain ⟨fuel, hf⟩ := h
  rcases Go.Deep.open_slice Tryd.underlying22 hf with ⟨hcs, hx⟩ | ⟨a, len', cap', m, n, D, Pl, hcs, _, hl, hm, hmm, hx, hel⟩
  · simp [Value.cells] at hcs
    obtain ⟨rfl, rfl, rfl⟩ := hcs
    exact ⟨by omega, fun _ => ⟨0, 0, ⟨#[]⟩, none, 0, 0, fun _ => 0, false⟩, fun j hj => by omega⟩
  · simp [Value.cells] at hcs
    obtain ⟨rfl, rfl, rfl⟩ := hcs
    simp only [Prod.mk.injEq] at hx
    obtain ⟨rfl, rfl⟩ := hx
    simp only [if_true] at hmm
    subst hmm
    rw [DataW.weights, Tryd.underlying22] at hwt
    have hw0 := hwt _ (List.mem_cons_self ..)
    rw [bytesDe9] at hw0
    simp only [List.length_map, List.length_range, reachBytes] at hw0
    refine ⟨by omega, ?_⟩
    obtain ⟨b, off, spot⟩ := a
    have each : ∀ i, i < len → ∃ q : DeV, (⟨b, off, spot⟩ : Addr).spot = none ∧ b < W.heap.size ∧ DeOk W q b (off + i * 5) := by
      intro i hi
      obtain ⟨cs', h1, h2⟩ := hel i (by omega)
      have hwi : ∀ n ∈ (D i).weights Tryd.prog 37, n ≤ reachBytes := fun n hn => hwt n (List.mem_cons_of_mem _ (List.mem_append_left _ (weights_mem_allD (List.mem_map.2 ⟨i, List.mem_range.2 hi, rfl⟩) n hn)))
      have hpl : ∀ x ∈ Pl i, x.block < W.heap.size := fun x hx => hlt x (List.mem_append_right _ (List.mem_flatMap.2 ⟨i, List.mem_range.2 (by omega), hx⟩))
      rw [cellsDe9] at h1
      obtain ⟨_, hlen, hcell⟩ := World.cells?_some h1
      obtain ⟨xs, k, hk, hxy, _, hxl, hff⟩ := DataW.trod_struct Tryd.underlying37 h2
      match xs, hxl, cs', hlen, hff, hxy, hcell with
      | [y0, y1, y2, y3, y4], _, [u0, u1, u2, u3, u4], _, hff, hxy, hcell =>
        have g0 := hff 0 _ rfl
        have g1 := hff 1 _ rfl
        have g2 := hff 2 _ rfl
        have g3 := hff 3 _ rfl
        have g4 := hff 4 _ rfl
        simp [cellsInt, cellsSlD9, cellsStrD9, cellsBoolD9] at g0 g1 g2 g3 g4
        simp only [Prod.mk.injEq] at hxy
        rw [hxy.1] at hwi
        rw [hxy.2] at hpl
        obtain ⟨z0, e0, _, _⟩ := DataW.trod_int Tryd.underlying3 g0
        obtain ⟨z1, e1, _, _⟩ := DataW.trod_int Tryd.underlying3 g1
        obtain ⟨z2, e2, _, w2⟩ := DataW.trod_string Tryd.underlying9 g2
        obtain ⟨z4, e4, _⟩ := DataW.trod_bool Tryd.underlying4 g4
        simp at e0 e1 e2 e4
        subst e0 e1 e2 e4
        have c0 := hcell 0 (by omega)
        have c1 := hcell 1 (by omega)
        have c2 := hcell 2 (by omega)
        have c3 := hcell 3 (by omega)
        have c4 := hcell 4 (by omega)
        have hspot : spot = none := by
          obtain ⟨cs0, k1, k2⟩ := hel 0 (by omega)
          rw [cellsDe9] at k1
          obtain ⟨_, klen, kcell⟩ := World.cells?_some k1
          have k3 := kcell 0 (by omega)
          rw [List.getElem?_eq_getElem (by omega)] at k3
          simpa [Addr.add] using World.cell?_spot k3
        subst hspot
        simp only [add_plain] at c0 c1 c2 c3 c4
        have hbl : b < W.heap.size := hlt (.cell b off) (List.mem_append_left _ (MemPlace.mem_row.2 ⟨0, by rw [cellsDe9]; omega, by simp⟩))
        have hlt3 : ∀ x ∈ y3.2, x.block < W.heap.size := fun x hx => hpl x (by simp [hx])
        obtain ⟨d3, p3⟩ := y3
        have key : ∃ ao4 len4 cap4 f4, u3 = .slice ao4 len4 cap4 ∧ Ints W ao4 len4 f4 ∧ len4 ≤ maxLen := by
          rcases open_ints Tryd.underlying35 Tryd.underlying3 cellsInt g3 with ⟨hcs, _⟩ | ⟨a', len', cap', zs, hcs, _, hl', hm', _, _, _, _⟩
          · have hvj : u3 = .slice none 0 0 := by simpa using hcs
            exact ⟨none, 0, 0, fun _ => 0, hvj, fun j hj => absurd hj (Nat.not_lt_zero _), Nat.zero_le _⟩
          · have hvj : u3 = .slice (some a') len' cap' := by simpa using hcs
            obtain ⟨⟨z, hz⟩, hd⟩ := open_arg (enc := enc) (d := d3) (ps := p3) hvj ⟨k, by rw [hvj] at g3 ⊢; exact g3⟩ hlt3
            exact ⟨some a', len', cap', z, hvj, hz, Nat.le_trans hl' hm'⟩
        obtain ⟨ao4, len4, cap4, f4, rfl, hI4, hl4⟩ := key
        exact ⟨⟨z0, z1, z2, ao4, len4, cap4, f4, z4⟩, rfl, hbl, by simpa using c0, by simpa using c1, by simpa using c2, by simpa using c3, by simpa using c4, w2, hI4, hl4⟩
    refine ⟨fun i => if h : i < len then (each i h).choose else ⟨0, 0, ⟨#[]⟩, none, 0, 0, fun _ => 0, false⟩, fun j hj => ?_⟩
    have hq := (each j hj).choose_spec
    simp only [dif_pos hj]
    obtain ⟨hs, hbl, h3⟩ := hq
    have hs' : spot = none := hs
    subst hs'
    exact ⟨b, off, rfl, hbl, h3⟩
end Go.Proofs.YtmpkhbblakfglaaDoor
