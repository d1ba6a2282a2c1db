/- A least spanning forest in memory; an edge is taken into it. -/
import Derived.Test.YtffmlffhiimmdaaMsM
namespace Go.Proofs.Ytffmlffhiimmdaa
open Go.ChangeShapes Go.WideShapes Go.ChangeAt Go.RowKit Go.Maps
set_option linter.unusedVariables false

set_option maxRecDepth 100000 in
theorem most_none (w : World) (o : Nat → Nat) (L p n : Nat) (ed : Nat → Option Ed) (R : Nat → List Nat) (m u v : Nat) (X : Tx w o L p n ed R m) (hu : u < n) (hv : v < n) (hd : (R (2 * u + 1)).head? ≠ (R (2 * v + 1)).head?) :
    Calls Try.prog 40 #[.pointer (some ⟨p, 0, none⟩), .int .i64 u, .int .i64 v] w fun e w' => ∃ o', e = .returned (.tuple #[.agg #[.int .i64 0, .int .i64 0, .int .i64 0, .int .i64 0], .int .i64 54]) ∧ Tx w' o' L p n ed R m ∧ Step (TL L) w o w' o' := by
  have s0 := newStep (fun _ => False) w o (L + 5) (.cells #[.int .i64 0, .int .i64 0, .int .i64 0, .int .i64 0] 43)
  have B0 : Blk (w.alloc (.cells #[.int .i64 0, .int .i64 0, .int .i64 0, .int .i64 0] 43)) (newLab w o (L + 5)) (L + 5) w.heap.size (.cells #[.int .i64 0, .int .i64 0, .int .i64 0, .int .i64 0] 43 (0, 0)) := ⟨heap_alloc_new w _, newLab_new (Nat.le_refl _)⟩
  have hc := joined_nl _ _ L p n ed R m u v (X.step s0 (fun _ _ => id)) hu hv
  rw [if_neg hd] at hc
  have n5 : ¬ NL L (L + 5) := fun h => by have := h.1; omega
  obtain ⟨b0, hb0⟩ : ∃ b0, b0 = w.heap.size := ⟨_, rfl⟩
  rw [← hb0] at B0
  generalize newLab w o (L + 5) = o0 at s0 B0 hc
  go_enter Try.func40, Try.ntmps40
  go_wp2_with fail
  refine hc.mono ?_
  rintro e w1 ⟨rfl, X1, s1⟩
  rw [← hb0]
  have B1 := B0.step s1 n5
  obtain ⟨⟨d0, d1, d2, d3⟩, df⟩ := B1.cell4
  have e0 := B1.stp2 0 (.int .i64 0)
  have C1 := B1.set 0 (.int .i64 0)
  have e1 := C1.stp2 1 (.int .i64 0)
  have C2 := C1.set 1 (.int .i64 0)
  have e2 := C2.stp2 2 (.int .i64 0)
  have C3 := C2.set 2 (.int .i64 0)
  have e3 := C3.stp2 3 (.int .i64 0)
  have s4 := ((e0.trans e1).trans e2).trans e3
  have X4 := X1.step2 s4 (fun k hk x => by rcases hk with hk | hk; exact n5 (x ▸ hk); omega)
  have S4 : Step (TL L) w o _ o0 := (((s0.mono fun _ h => h.elim).trans (s1.mono fun k hk => hk.tl)).trans (s4.mono fun k hk => ⟨by omega, by omega⟩))
  clear hc X X1 hb0 B0 B1 e0 e1 e2 e3 C1 C2 C3 s4 s0 s1
  go_wp2
  exact bodyPost_ret (v := .tuple #[.agg #[.int .i64 0, .int .i64 0, .int .i64 0, .int .i64 0], .int .i64 54]) (by simp [results, Try.results40, go_sem, d0, d1, d2, d3]) rfl ⟨o0, rfl, X4, S4⟩

/-- The struct, the map and the trees. -/
def Mr (w : World) (o : Nat → Nat) (L p n : Nat) (f : Nat → Option (Ed × Bool)) (ed : Nat → Option Ed) (R : Nat → List Nat) (m c : Nat) : Prop :=
  ∃ bm q, Blk w o L p (.cells #[.int .i64 n, .map (some bm), .pointer (some ⟨q, 0, none⟩)] 68 (0, 0)) ∧ MsM w o (L + 1) bm m f ∧ Tx w o (L + 2) q n ed R c
/-- Its labels. -/
def ML (L : Nat) : Nat → Prop := fun k => L ≤ k ∧ k < L + 4000000000010
theorem TL.ml {L k : Nat} (h : TL (L + 2) k) : ML L k := ⟨by have := h.1; omega, by have := h.2; omega⟩
theorem Mr.step {I : Nat → Prop} {w w' : World} {o o' : Nat → Nat} {L p n : Nat} {f : Nat → Option (Ed × Bool)} {ed : Nat → Option Ed} {R : Nat → List Nat} {m c : Nat} (h : Mr w o L p n f ed R m c) (s : Step I w o w' o') (hi : ∀ k, ML L k → ¬ I k) : Mr w' o' L p n f ed R m c := by
  obtain ⟨bm, q, h1, h2, h3⟩ := h
  exact ⟨bm, q, h1.step s (hi _ ⟨by omega, by omega⟩), h2.step s (hi _ ⟨by omega, by omega⟩), h3.step s (fun k hk => hi k hk.ml)⟩
theorem Blk.cell3 {w : World} {o : Nat → Nat} {i b : Nat} {a0 a1 a2 : Value} {t : TypeId} (h : Blk w o i b (.cells #[a0, a1, a2] t (0, 0))) :
    (w.cell? ⟨b, 0, none⟩ = some a0 ∧ w.cell? ⟨b, 1, none⟩ = some a1 ∧ w.cell? ⟨b, 2, none⟩ = some a2) ∧ ∀ j, w.frozen? ⟨b, j, none⟩ = false := by
  refine ⟨⟨?_, ?_, ?_⟩, fun j => frozen_of_row w b j _ t h.1⟩ <;> simp [cell_of_row w b _ _ t (0, 0) h.1]

set_option maxRecDepth 100000 in
theorem span_in (w : World) (o : Nat → Nat) (L p n : Nat) (f : Nat → Option (Ed × Bool)) (ed : Nat → Option Ed) (R : Nat → List Nat) (m c i : Nat) (x : Ed) (X : Mr w o L p n f ed R m c) (hu : x.u < n) (hv : x.v < n) (hi : i ≤ 1099511627776) (hw : -1099511627776 ≤ x.w ∧ x.w ≤ 1099511627776) (hd : (R (2 * x.u + 1)).head? ≠ (R (2 * x.v + 1)).head?) (ni : ed i = none) (hm : m ≤ 100000) (hc : c ≤ 100000) :
    Calls Try.prog 46 #[.pointer (some ⟨p, 0, none⟩), .agg #[.int .i64 (i : Nat), .int .i64 (x.u : Nat), .int .i64 (x.v : Nat), .int .i64 x.w]] w fun e w' => e = .returned (.tuple #[]) ∧ ∃ o', Mr w' o' L p n (upd f i (some (x, true))) (upd ed i (some x)) (linkR R (2 * x.u + 1) (2 * x.v + 1) (2 * i + 2)) (if (f i).isSome = true then m else m + 1) (c + 1) ∧ Step (ML L) w o w' o' := by
  obtain ⟨bm, q, B, MM, T⟩ := X
  obtain ⟨u, v, wt⟩ := x
  simp only at hu hv hw hd ⊢
  have s0 := newStep (fun _ => False) w o (L + 4000000000005) (.cells #[.int .i64 (i : Nat), .int .i64 (u : Nat), .int .i64 (v : Nat), .int .i64 wt] 43)
  have B0 : Blk (w.alloc (.cells #[.int .i64 (i : Nat), .int .i64 (u : Nat), .int .i64 (v : Nat), .int .i64 wt] 43)) (newLab w o (L + 4000000000005)) (L + 4000000000005) w.heap.size (.cells #[.int .i64 (i : Nat), .int .i64 (u : Nat), .int .i64 (v : Nat), .int .i64 wt] 43 (0, 0)) := ⟨heap_alloc_new w _, newLab_new (Nat.le_refl _)⟩
  have B1 := B.step s0 id
  have M1 := MM.step s0 id
  have T1 := T.step s0 (fun _ _ => id)
  obtain ⟨b0, hb0⟩ : ∃ b0, b0 = w.heap.size := ⟨_, rfl⟩
  have HB0 : Hid (b0 = w.heap.size) := hb0
  rw [← hb0] at B0
  generalize newLab w o (L + 4000000000005) = o1 at s0 B0 B1 M1 T1
  obtain ⟨w1, hw1⟩ : ∃ w1, w1 = w.alloc (.cells #[.int .i64 (i : Nat), .int .i64 (u : Nat), .int .i64 (v : Nat), .int .i64 wt] 43) := ⟨_, rfl⟩
  rw [← hw1] at s0 B0 B1 M1 T1
  have sd : Step (fun _ => False) w1 o1 w1.drew o1 := (Step.refl _ _ _).drew
  have hlk := link_in w1.drew o1 (L + 2) q n ed R c u v i wt (T1.step sd (fun _ _ => id)) hu hv hi hw hd ni hc
  obtain ⟨⟨p0, p1, p2⟩, pf⟩ := B1.cell3
  obtain ⟨⟨x0, x1, x2, x3⟩, xf⟩ := B0.cell4
  have ky : w1.cell? ⟨p, 2, none⟩ = some (.pointer (some ⟨q, 0, none⟩)) ∧ w1.cell? ⟨b0, 0, none⟩ = some (.int .i64 (i : Nat)) ∧ w1.cell? ⟨b0, 1, none⟩ = some (.int .i64 (u : Nat)) ∧ w1.cell? ⟨b0, 2, none⟩ = some (.int .i64 (v : Nat)) ∧ w1.cell? ⟨b0, 3, none⟩ = some (.int .i64 wt) := ⟨p2, x0, x1, x2, x3⟩
  have ntl : ∀ k, k = L ∨ k = L + 1 ∨ k = L + 4000000000005 → ¬ TL (L + 2) k := fun k hk h => by have := h.1; have := h.2; omega
  have HK : Hid (∀ wx ox, Step (TL (L + 2)) w1.drew o1 wx ox → (wx.cell? ⟨p, 2, none⟩ = some (.pointer (some ⟨q, 0, none⟩)) ∧ wx.cell? ⟨b0, 0, none⟩ = some (.int .i64 (i : Nat)) ∧ wx.cell? ⟨b0, 1, none⟩ = some (.int .i64 (u : Nat)) ∧ wx.cell? ⟨b0, 2, none⟩ = some (.int .i64 (v : Nat)) ∧ wx.cell? ⟨b0, 3, none⟩ = some (.int .i64 wt))) := fun wx ox s => by
    obtain ⟨⟨_, _, y2⟩, _⟩ := ((B1.step sd id).step s (ntl _ (.inl rfl))).cell3
    obtain ⟨⟨z0, z1, z2, z3⟩, _⟩ := ((B0.step sd id).step s (ntl _ (.inr (.inr rfl)))).cell4
    exact ⟨y2, z0, z1, z2, z3⟩
  clear hb0 B MM T
  go_enter Try.func46, Try.ntmps46
  go_wp2_with fail
  rw [← hw1, ← HB0.out]
  clear hw1 HB0
  go_region_held3 (fun wx => wx.cell? ⟨p, 2, none⟩ = some (.pointer (some ⟨q, 0, none⟩)) ∧ wx.cell? ⟨b0, 0, none⟩ = some (.int .i64 (i : Nat)) ∧ wx.cell? ⟨b0, 1, none⟩ = some (.int .i64 (u : Nat)) ∧ wx.cell? ⟨b0, 2, none⟩ = some (.int .i64 (v : Nat)) ∧ wx.cell? ⟨b0, 3, none⟩ = some (.int .i64 wt)) (first | (with_reducible exact ky) | (with_reducible exact kz) | go_keep) ((go_at_call 56; refine hlk.mono ?_; rintro e w2 ⟨rfl, o2, T2, s2⟩; have kz := HK.out _ _ s2))
  have sd2 : Step (fun _ => False) w2 o2 w2.drew o2 := (Step.refl _ _ _).drew
  obtain ⟨w3, hput, M3, s3⟩ := (((M1.step sd id).step s2 (ntl _ (.inr (.inl rfl)))).step sd2 id).put i ⟨u, v, wt⟩ true ⟨by omega, by omega⟩ hm
  have B2 := (B1.step sd id).step s2 (ntl _ (.inl rfl))
  obtain ⟨⟨y0, y1, y2⟩, yf⟩ := B2.cell3
  obtain ⟨⟨z0, z1, z2, z3⟩, zf⟩ := ((B0.step sd id).step s2 (ntl _ (.inr (.inr rfl)))).cell4
  have RR : ∃ o', Mr w3 o' L p n (upd f i (some (⟨u, v, wt⟩, true))) (upd ed i (some ⟨u, v, wt⟩)) (linkR R (2 * u + 1) (2 * v + 1) (2 * i + 2)) (if (f i).isSome = true then m else m + 1) (c + 1) ∧ Step (ML L) w o w3 o' := by
    have s3' := s3.mono (J := ML L) fun k hk => by subst hk; exact ⟨by omega, by omega⟩
    have n3 : ∀ k, k ≠ L + 1 → ¬ (k = L + 1) := fun k h => h
    refine ⟨o2, ⟨bm, q, (B2.step sd2 id).step s3 (by omega), M3, (T2.step sd2 (fun _ _ => id)).step s3 (fun k hk e => by have := hk.1; omega)⟩, ?_⟩
    exact ((((s0.mono fun _ h => h.elim).trans (sd.mono fun _ h => h.elim)).trans (s2.mono fun k hk => hk.ml)).trans (sd2.mono fun _ h => h.elim)).trans s3'
  clear HK hlk ky kz p0 p1 p2 pf x0 x1 x2 x3 xf B0 B1 B2 M1 T1 T2 s0 sd s2 sd2 M3 s3
  go_wp2_with fail
  go_region
  go_end0
  exact ⟨rfl, RR⟩

end Go.Proofs.Ytffmlffhiimmdaa
