/- Path and Most. -/
import Derived.Test.YtffmlffhiimmdaaAlong
namespace Go.Proofs.Ytffmlffhiimmdaa
open Go.ChangeShapes Go.WideShapes Go.ChangeAt Go.RowKit Go.Maps
set_option linter.unusedVariables false

theorem AL.tl {L lb k : Nat} (h : AL L lb k) : TL L k ∨ k = lb := by
  rcases h with h | h | h | h
  · exact .inl h.tl
  · exact .inl ⟨by omega, by omega⟩
  · exact .inl ⟨by omega, by omega⟩
  · exact .inr h

theorem Tx.step2 {I : Nat → Prop} {w w' : World} {o o' : Nat → Nat} {L p n : Nat} {ed : Nat → Option Ed} {R : Nat → List Nat} {m : Nat} (h : Tx w o L p n ed R m) (s : Step I w o w' o') (hi : ∀ k, (NL L k ∨ (L ≤ k ∧ k ≤ L + 2)) → ¬ I k) : Tx w' o' L p n ed R m := by
  obtain ⟨h0, pt, bv, cap, bm, h1, h2⟩ := h
  exact ⟨h0, pt, bv, cap, bm, h1.step s (fun k a b => hi k (.inr ⟨a, b⟩)), h2.step s (fun k hk => hi k (.inl hk))⟩

set_option maxRecDepth 100000 in
theorem most_in (w : World) (o : Nat → Nat) (L p n : Nat) (ed : Nat → Option Ed) (R : Nat → List Nat) (m u v lb : Nat) (X : Tx w o L p n ed R m) (hu : u < n) (hv : v < n) (huv : u ≠ v) (hd : (R (2 * u + 1)).head? = (R (2 * v + 1)).head?) (hlb : ¬ TL L lb) (hne : ∃ k ∈ way R u v, k % 2 = 0) :
    Calls Try.prog 40 #[.pointer (some ⟨p, 0, none⟩), .int .i64 u, .int .i64 v] w fun e w' => ∃ t o', e = .returned (.tuple #[.agg #[.int .i64 ((t - 2) / 2 : Nat), .int .i64 (edE ed t).u, .int .i64 (edE ed t).v, .int .i64 (edE ed t).w], .int .i64 0]) ∧ (TopE (edE ed) (way R u v) t ∧ t ≠ 0) ∧ Tx w' o' L p n ed R m ∧ Step (fun k => TL L k ∨ k = lb) w o w' o' := by
  have hde : ((u : Int) == (v : Int)) = false := by simp only [beq_eq_false_iff_ne, ne_eq]; omega
  have s0 := newStep (fun _ => False) w o (L + 5) (.cells #[.int .i64 0, .int .i64 0, .int .i64 0, .int .i64 0] 43)
  have B0 : Blk (w.alloc (.cells #[.int .i64 0, .int .i64 0, .int .i64 0, .int .i64 0] 43)) (newLab w o (L + 5)) (L + 5) w.heap.size (.cells #[.int .i64 0, .int .i64 0, .int .i64 0, .int .i64 0] 43 (0, 0)) := ⟨heap_alloc_new w _, newLab_new (Nat.le_refl _)⟩
  have hc := joined_nl _ _ L p n ed R m u v (X.step s0 (fun _ _ => id)) hu hv
  rw [if_pos hd] at hc
  have n5 : ¬ NL L (L + 5) := fun h => by have := h.1; omega
  have a5 : ¬ AL L lb (L + 5) := fun h => by
    rcases h with h | h | h | h
    · exact n5 h
    · omega
    · omega
    · exact hlb ⟨by omega, by omega⟩
  obtain ⟨b0, hb0⟩ : ∃ b0, b0 = w.heap.size := ⟨_, rfl⟩
  rw [← hb0] at B0
  generalize newLab w o (L + 5) = o0 at s0 B0 hc
  go_enter Try.func40, Try.ntmps40
  go_wp2_with fail
  refine hc.mono ?_
  rintro e w1 ⟨rfl, X1, s1⟩
  rw [← hb0]
  have s2 := newStep (fun _ => False) w1 o0 (L + 3) (.cells #[.int .i64 0, .int .i64 0, .int .i64 0, .int .i64 0] 43)
  have B2 : Blk (w1.alloc (.cells #[.int .i64 0, .int .i64 0, .int .i64 0, .int .i64 0] 43)) (newLab w1 o0 (L + 3)) (L + 3) w1.heap.size (.cells #[.int .i64 0, .int .i64 0, .int .i64 0, .int .i64 0] 43 (0, 0)) := ⟨heap_alloc_new w1 _, newLab_new (Nat.le_refl _)⟩
  have X2 := X1.step s2 (fun _ _ => id)
  have B02 := (B0.step s1 n5).step s2 id
  have hc2 := along_most _ _ L p n ed R m u v lb w1.heap.size X2 hu hv hd hlb B2 hne
  clear hc X X1 hb0
  go_wp2_with fail
  refine hc2.mono ?_
  rintro e w3 ⟨rfl, o3, X3, ⟨t, ht, B3⟩, s3⟩
  have B03 := B02.step s3 a5
  obtain ⟨⟨c0, c1, c2, c3⟩, _⟩ := B3.cell4
  obtain ⟨⟨d0, d1, d2, d3⟩, df⟩ := B03.cell4
  obtain ⟨iv, hiv⟩ : ∃ iv : Int, iv = (((t - 2) / 2 : Nat) : Int) := ⟨_, rfl⟩
  rw [← hiv] at B3 c0
  have HIV : Hid _ := hiv
  clear hiv
  have S3 : Step (fun k => TL L k ∨ k = lb) w o w3 o3 := ((((s0.mono fun _ h => h.elim).trans (s1.mono fun k hk => .inl hk.tl)).trans (s2.mono fun _ h => h.elim)).trans (s3.mono fun k hk => hk.tl))
  have e0 := B03.stp2 0 (.int .i64 iv)
  have B1 := B03.set 0 (.int .i64 iv)
  have e1 := B1.stp2 1 (.int .i64 (edE ed t).u)
  have B4 := B1.set 1 (.int .i64 (edE ed t).u)
  have e2 := B4.stp2 2 (.int .i64 (edE ed t).v)
  have B5 := B4.set 2 (.int .i64 (edE ed t).v)
  have e3 := B5.stp2 3 (.int .i64 (edE ed t).w)
  have B6 := B5.set 3 (.int .i64 (edE ed t).w)
  have B7 : Blk _ o3 (L + 5) b0 (.cells #[.int .i64 iv, .int .i64 (edE ed t).u, .int .i64 (edE ed t).v, .int .i64 (edE ed t).w] 43 (0, 0)) := B6
  have s4 := ((e0.trans e1).trans e2).trans e3
  have X4 := X3.step2 s4 (fun k hk x => by rcases hk with hk | hk; exact n5 (x ▸ hk); omega)
  have S4 := S3.trans (s4.mono fun k hk => .inl ⟨by omega, by omega⟩)
  obtain ⟨⟨g0, g1, g2, g3⟩, gf⟩ := B7.cell4
  clear hc2 B3 X2 B2 s1 s2 s3 B0 B02 B03 B1 B4 B5 B6 e0 e1 e2 e3 s4 S3 X3
  go_wp2
  exact bodyPost_ret (v := .tuple #[.agg #[.int .i64 iv, .int .i64 (edE ed t).u, .int .i64 (edE ed t).v, .int .i64 (edE ed t).w], .int .i64 0]) (by simp [results, Try.results40, go_sem, d0, d1, d2, d3]) rfl ⟨t, o3, by rw [HIV.out], ht, X4, S4⟩

end Go.Proofs.Ytffmlffhiimmdaa
