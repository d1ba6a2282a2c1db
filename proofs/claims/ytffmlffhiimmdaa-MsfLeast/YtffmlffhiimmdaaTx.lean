/- Trees in memory: the struct, its vertices, its edges by their IDs; new nodes. -/
import Derived.Test.YtffmlffhiimmdaaEdM
namespace Go.Proofs.Ytffmlffhiimmdaa
open Go.ChangeShapes Go.WideShapes Go.ChangeAt Go.RowKit Go.Maps
set_option linter.unusedVariables false

/-- Which nodes there are: the vertices, and the edges. -/
def liveN (n : Nat) (ed : Nat → Option Ed) (k : Nat) : Prop := if k % 2 = 0 then 2 ≤ k ∧ (ed ((k - 2) / 2)).isSome = true else k < 2 * n
def edE (ed : Nat → Option Ed) (k : Nat) : Ed := if k % 2 = 0 then (ed ((k - 2) / 2)).getD ⟨0, 0, 0⟩ else ⟨0, 0, 0⟩
theorem liveN_v {n v : Nat} {ed : Nat → Option Ed} (h : v < n) : liveN n ed (2 * v + 1) := by unfold liveN; rw [if_neg (by omega)]; omega
theorem liveN_e {n i : Nat} {ed : Nat → Option Ed} : liveN n ed (2 * i + 2) ↔ (ed i).isSome = true := by
  unfold liveN
  rw [if_pos (by omega)]
  have : (2 * i + 2 - 2) / 2 = i := by omega
  rw [this]
  exact ⟨fun h => h.2, fun h => ⟨by omega, h⟩⟩
theorem edE_e (ed : Nat → Option Ed) (i : Nat) : edE ed (2 * i + 2) = (ed i).getD ⟨0, 0, 0⟩ := by
  unfold edE
  have : (2 * i + 2 - 2) / 2 = i := by omega
  rw [if_pos (by omega), this]
/-- What Link may have been given. -/
def EdOk (n : Nat) (ed : Nat → Option Ed) : Prop := ∀ i x, ed i = some x → i ≤ 1099511627776 ∧ x.u < n ∧ x.v < n ∧ x.u ≠ x.v ∧ -1099511627776 ≤ x.w ∧ x.w ≤ 1099511627776
theorem EdOk.small {n : Nat} {ed : Nat → Option Ed} (h : EdOk n ed) (hn : n ≤ 64) : Small (liveN n ed) := fun k hk => by
  unfold liveN at hk
  split at hk
  · obtain ⟨h1, h2⟩ := hk
    obtain ⟨x, hx⟩ := Option.isSome_iff_exists.1 h2
    have := (h _ _ hx).1
    omega
  · omega
def vps (pt : Nat → Nat) (n : Nat) : List Value := (List.range n).map fun v => .pointer (some ⟨pt (2 * v + 1), 0, none⟩)
def edF (ed : Nat → Option Ed) (pt : Nat → Nat) (k : Int) : Option Nat := if k < 0 then none else if (ed k.toNat).isSome = true then some (pt (2 * k.toNat + 2)) else none
/-- The struct, the vertices and the map. -/
def Tb (w : World) (o : Nat → Nat) (L p n bv cap bm m : Nat) (f : Int → Option Nat) (vs : List Value) : Prop :=
  Blk w o L p (.cells #[.slice (some ⟨bv, 0, none⟩) n cap, .map (some bm)] 81 (0, 0)) ∧ Row w o (L + 1) 82 1 (.slice (some ⟨bv, 0, none⟩) n cap) n vs ∧ EdM w o (L + 2) bm m f
theorem Tb.step {I : Nat → Prop} {w w' : World} {o o' : Nat → Nat} {L p n bv cap bm m : Nat} {f : Int → Option Nat} {vs : List Value} (h : Tb w o L p n bv cap bm m f vs) (s : Step I w o w' o') (hi : ∀ k, L ≤ k → k ≤ L + 2 → ¬ I k) : Tb w' o' L p n bv cap bm m f vs :=
  ⟨h.1.step s (hi _ (by omega) (by omega)), h.2.1.step s (hi _ (by omega) (by omega)), h.2.2.step s (hi _ (by omega) (by omega))⟩
theorem NL.tb {L k : Nat} (h1 : L ≤ k) (h2 : k ≤ L + 2) : ¬ NL L k := fun h => by have := h.1; omega
theorem Tb.cells {w : World} {o : Nat → Nat} {L p n bv cap bm m : Nat} {f : Int → Option Nat} {vs : List Value} (h : Tb w o L p n bv cap bm m f vs) :
    w.cell? ⟨p, 0, none⟩ = some (.slice (some ⟨bv, 0, none⟩) n cap) ∧ w.cell? ⟨p, 1, none⟩ = some (.map (some bm)) ∧ ∀ j, w.frozen? ⟨p, j, none⟩ = false := by
  refine ⟨?_, ?_, fun j => frozen_of_row w p j _ _ h.1.1⟩ <;> simp [cell_of_row w p _ _ _ (0, 0) h.1.1]
theorem Tb.vert {w : World} {o : Nat → Nat} {L p n bv cap bm m : Nat} {f : Int → Option Nat} {pt : Nat → Nat} (h : Tb w o L p n bv cap bm m f (vps pt n)) {v : Nat} (hv : v < n) : w.cell? ⟨bv, v, none⟩ = some (.pointer (some ⟨pt (2 * v + 1), 0, none⟩)) := by
  obtain ⟨g, c, e, _, _, _, _, hc, _⟩ := h.2.1.pos (by omega)
  simp only [Value.slice.injEq, Option.some.injEq, Addr.mk.injEq, and_true, true_and] at e
  obtain ⟨rfl, rfl⟩ := e
  rw [hc v (by omega)]
  simp [vps, hv]
/-- Chains of vertices and edges by turns. -/
structure Alt (n : Nat) (ed : Nat → Option Ed) (R : Nat → List Nat) : Prop where
  e : ∀ i x, ed i = some x → ∃ a b, ((a = x.u ∧ b = x.v) ∨ (a = x.v ∧ b = x.u)) ∧ R (2 * i + 2) = R (2 * a + 1) ++ [2 * i + 2] ∧ R (2 * b + 1) = R (2 * i + 2) ++ [2 * b + 1]
  v : ∀ v, v < n → R (2 * v + 1) = [2 * v + 1] ∨ ∃ i x, ed i = some x ∧ (v = x.u ∨ v = x.v) ∧ R (2 * v + 1) = R (2 * i + 2) ++ [2 * v + 1]
/-- Trees: how many vertices, which edges, of each node the chain from the root down to it. -/
def Tx (w : World) (o : Nat → Nat) (L p n : Nat) (ed : Nat → Option Ed) (R : Nat → List Nat) (m : Nat) : Prop :=
  (1 ≤ n ∧ n ≤ 64 ∧ EdOk n ed ∧ Alt n ed R) ∧ ∃ pt bv cap bm, Tb w o L p n bv cap bm m (edF ed pt) (vps pt n) ∧ Fg w o L (liveN n ed) pt (edE ed) R
def TL (L : Nat) : Nat → Prop := fun k => L ≤ k ∧ k < L + 4000000000000
theorem Fg.rt {w : World} {o : Nat → Nat} {L : Nat} {live : Nat → Prop} {pt : Nat → Nat} {E : Nat → Ed} {R : Nat → List Nat} (F : Fg w o L live pt E R) : Rt live R := by obtain ⟨nd, hv, T, S, P, G, hR, hT⟩ := F; exact hT
theorem NL.tl {L k : Nat} (h : NL L k) : TL L k := ⟨by have := h.1; omega, h.2⟩
theorem Tx.step {I : Nat → Prop} {w w' : World} {o o' : Nat → Nat} {L p n : Nat} {ed : Nat → Option Ed} {R : Nat → List Nat} {m : Nat} (h : Tx w o L p n ed R m) (s : Step I w o w' o') (hi : ∀ k, TL L k → ¬ I k) : Tx w' o' L p n ed R m := by
  obtain ⟨h0, pt, bv, cap, bm, h1, h2⟩ := h
  exact ⟨h0, pt, bv, cap, bm, h1.step s (fun k a b => hi k ⟨a, by omega⟩), h2.step s (fun k hk => hi k hk.tl)⟩
theorem Tx.congr {w : World} {o : Nat → Nat} {L p n : Nat} {ed : Nat → Option Ed} {R R' : Nat → List Nat} {m : Nat} (h : Tx w o L p n ed R m) (e : ∀ k, liveN n ed k → R' k = R k) : Tx w o L p n ed R' m := by
  obtain ⟨⟨a, b, c, d⟩, pt, bv, cap, bm, h1, nd, hv, T, S, P, G, hR, hT⟩ := h
  have ev : ∀ v, v < n → R' (2 * v + 1) = R (2 * v + 1) := fun v hv => e _ (liveN_v hv)
  have ee : ∀ i, (ed i).isSome = true → R' (2 * i + 2) = R (2 * i + 2) := fun i hi => e _ (liveN_e.2 hi)
  refine ⟨⟨a, b, c, fun i x hx => ?_, fun v hv => ?_⟩, pt, bv, cap, bm, h1, nd, hv, T, S, P, G, fun h lh A y B q => ?_, ⟨fun k lk => ?_, fun k lk y hy => ?_, fun k lk y hy => ?_, fun k lk => ?_⟩⟩
  · obtain ⟨x1, x2, q1, q2, q3⟩ := d.e i x hx
    obtain ⟨_, u1, u2, _⟩ := c i x hx
    have is : (ed i).isSome = true := by rw [hx]; rfl
    refine ⟨x1, x2, q1, ?_, ?_⟩
    · rw [ee i is, ev x1 (by omega)]; exact q2
    · rw [ee i is, ev x2 (by omega)]; exact q3
  · rcases d.v v hv with q | ⟨i, x, hx, hvx, q⟩
    · exact .inl (by rw [ev v hv]; exact q)
    · exact .inr ⟨i, x, hx, hvx, by rw [ev v hv, ee i (by rw [hx]; rfl)]; exact q⟩
  · rw [e y (G.c.mem h lh y (by rw [q]; simp)).1, hR h lh A y B q]
    by_cases p0 : P h = 0
    · rw [if_pos p0, if_pos p0]
    · rw [if_neg p0, if_neg p0, e _ (G.c.pl h lh p0)]
  · rw [e k lk]; exact hT.last k lk
  · rw [e k lk] at hy; exact hT.mem k lk y hy
  · rw [e k lk] at hy ⊢; rw [e y (hT.mem k lk y hy)]; exact hT.pre k lk y hy
  · rw [e k lk]; exact hT.nodup k lk

theorem newVertex_any (w : World) (o : Nat → Nat) (i v : Nat) :
    Calls Try.prog 41 #[.int .i64 v] w fun e w' => ∃ b o', e = .returned (.pointer (some ⟨b, 0, none⟩)) ∧ Blk w' o' i b (.cells #[.pointer none, .pointer none, .pointer none, .bool false, .pointer (some ⟨b, 0, none⟩), .pointer none, .pointer none, .int .i64 v] 95 (0, 0)) ∧ Step (fun _ => False) w o w' o' := by
  go_enter Try.func41, Try.ntmps41
  go_wp2
  go_ret
  exact ⟨w.heap.size, newLab w o i, rfl, ⟨heap_alloc_new w _, newLab_new (Nat.le_refl _)⟩, newStep _ w o i _⟩
theorem newEdge_any (w : World) (o : Nat → Nat) (i : Nat) (a b c d : Int) :
    Calls Try.prog 76 #[.agg #[.int .i64 a, .int .i64 b, .int .i64 c, .int .i64 d]] w fun e w' => ∃ x o', e = .returned (.pointer (some ⟨x, 0, none⟩)) ∧ Blk w' o' i x (.cells #[.pointer none, .pointer none, .pointer none, .bool false, .pointer none, .pointer (some ⟨x, 0, none⟩), .pointer (some ⟨x, 0, none⟩), .int .i64 a, .int .i64 b, .int .i64 c, .int .i64 d] 92 (0, 0)) ∧ Step (fun _ => False) w o w' o' := by
  go_enter Try.func76, Try.ntmps76
  go_wp2
  go_ret
  have s0 := allocStep (fun _ => False) w o (.cells #[.int .i64 a, .int .i64 b, .int .i64 c, .int .i64 d] 43)
  have e1 : (w.alloc (.cells #[.int .i64 a, .int .i64 b, .int .i64 c, .int .i64 d] 43)).heap.size = w.heap.size + 1 := by simp
  refine ⟨w.heap.size + 1, newLab (w.alloc (.cells #[.int .i64 a, .int .i64 b, .int .i64 c, .int .i64 d] 43)) o i, rfl, ?_, s0.trans (newStep _ _ o i _)⟩
  rw [← e1]
  exact ⟨heap_alloc_new _ _, newLab_new (Nat.le_refl _)⟩

end Go.Proofs.Ytffmlffhiimmdaa
