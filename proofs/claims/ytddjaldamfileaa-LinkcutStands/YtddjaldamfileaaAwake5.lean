/- The chapter's first example. -/
import Derived.Test.YtddjaldamfileaaLaw5
namespace Go.Proofs.Ytddjaldamfileaa
open Go.ChangeShapes Go.WideShapes Go.ChangeAt Go.RowKit Go.Maps
set_option linter.unusedVariables false

theorem Step.posT {w w' : World} {o o' : Nat → Nat} {L : Nat} (s : Step (TL L) w o w' o') (h : 0 < L) : Step Pos w o w' o' := s.mono fun k hk => Nat.lt_of_lt_of_le h hk.1
theorem Step.posW {w w' : World} {o o' : Nat → Nat} {L lb : Nat} (s : Step (fun k => TL L k ∨ k = lb) w o w' o') (h : 0 < L) (h2 : 0 < lb) : Step Pos w o w' o' := s.mono fun k hk => hk.elim (fun hk => Nat.lt_of_lt_of_le h hk.1) (fun hk => by rw [hk]; exact h2)
/-- The heaviest edge, reckoned. -/
def topF (E : Nat → Ed) : List Nat → Nat
  | [] => 0
  | k :: W => hvr E (own k) (topF E W)
theorem TopE.topF {E : Nat → Ed} : ∀ (W : List Nat), (∀ k ∈ W, k ≠ 0) → TopE E W (topF E W)
  | [], _ => TopE.nil
  | k :: W, h => (TopE.own (h k (by simp))).hvr (TopE.topF W (fun j hj => h j (by simp [hj])))
def awR0 : Nat → List Nat := fun x => [x]
def awE0 : Nat → Option Ed := fun _ => none
def awR1 : Nat → List Nat := linkR awR0 3 1 16
def awE1 : Nat → Option Ed := upd awE0 7 (some ⟨1, 0, 30⟩)
def awR2 : Nat → List Nat := linkR awR1 5 3 18
def awE2 : Nat → Option Ed := upd awE1 8 (some ⟨2, 1, 50⟩)
def awR3 : Nat → List Nat := linkR awR2 7 3 20
def awE3 : Nat → Option Ed := upd awE2 9 (some ⟨3, 1, 50⟩)
theorem aw1 : (awR0 3).head? ≠ (awR0 1).head? := by decide
theorem aw2 : (awR1 5).head? ≠ (awR1 3).head? := by decide
theorem aw3 : (awR2 7).head? ≠ (awR2 3).head? := by decide
theorem aw4 : (awR3 7).head? = some 1 := by decide
theorem aw5 : way awR3 2 3 = [5, 18, 3, 20, 7] := by decide
theorem aw6 : idl (way awR3 2 0) = [8, 7] := by decide
theorem aw7 : (awR3 5).head? = (awR3 7).head? := by decide
theorem aw8 : (awR3 5).head? = (awR3 1).head? := by decide
theorem aw9 : (awR3 7).head? = (awR3 1).head? := by decide
theorem awT {t : Nat} (h : TopE (edE awE3) (way awR3 2 3) t) : t = 20 := by
  rw [aw5] at h
  have := h.uniq (TopE.topF [5, 18, 3, 20, 7] (by decide))
  rw [this]; decide
theorem TL.no {k : Nat} (h : 5000000000000 ≤ k) : ¬ TL 1 k := fun x => by have := x.2; omega
/-- A list that is typed out. -/
theorem Vw.typed (w : World) (o : Nat → Nat) (i : Nat) (xs : List Nat) (cs : Array Value) (t : TypeId) (n : Nat) (hn : n = xs.length) (hc : cs.toList = intsL xs) (hl : xs.length ≤ 100) : Vw (w.alloc (.cells cs t)) (newLab w o i) i (.slice (some ⟨w.heap.size, 0, none⟩) n n) xs := by
  subst hn
  refine ⟨_, _, rfl, Nat.le_refl _, by unfold maxLen; omega, fun h => ⟨_, 0, rfl, newLab_new (Nat.le_refl _), by simp, fun j hj => ?_⟩⟩
  have hb : (w.alloc (.cells cs t)).heap[w.heap.size]? = some (.cells cs t (0, 0)) := heap_alloc_new w _
  have hj2 : cs[j]? = some (.int .i64 (xs[j] : Nat)) := by
    rw [← Array.getElem?_toList, hc]; exact intsL_get xs j hj
  rw [cell_of_row _ _ _ _ t (0, 0) hb, Nat.zero_add, hj2]

set_option maxRecDepth 100000 in
theorem awake_any (w : World) : Calls Try.prog 7 #[] w fun e w' => e = .returned (.bool true) ∧ Below w.heap.size w w' := by
  go_enter Try.func7, Try.ntmps7
  go_wp2_with fail
  refine (new_in w o0 1 5 (by omega) (by omega)).mono ?_
  rintro e w1 ⟨p, o1, rfl, T1, s1⟩
  have b1 := s1.posT (by omega)
  clear s1
  go_wp2_with fail
  refine (link_in w1 o1 1 p 5 awE0 awR0 0 1 0 7 30 T1 (by omega) (by omega) (by omega) (by omega) aw1 rfl (by omega)).mono ?_
  rintro e w2 ⟨rfl, o2, T2, s2⟩
  have b2 := b1.trans (s2.posT (by omega))
  clear s2 b1 T1
  go_wp2_with fail
  refine (link_in w2 o2 1 p 5 awE1 awR1 1 2 1 8 50 T2 (by omega) (by omega) (by omega) (by omega) aw2 (by decide) (by omega)).mono ?_
  rintro e w3 ⟨rfl, o3, T3, s3⟩
  have b3 := b2.trans (s3.posT (by omega))
  clear s3 b2 T2
  go_wp2_with fail
  refine (link_in w3 o3 1 p 5 awE2 awR2 2 3 1 9 50 T3 (by omega) (by omega) (by omega) (by omega) aw3 (by decide) (by omega)).mono ?_
  rintro e w4 ⟨rfl, o4, T4, s4⟩
  have b4 := b3.trans (s4.posT (by omega))
  clear s4 b3 T3
  go_wp2_with fail
  refine (root_in w4 o4 1 p 5 awE3 awR3 3 3 T4 (by omega)).mono ?_
  rintro e w5 ⟨r, rfl, hr, T5, s5⟩
  have b5 := b4.trans (s5.posT (by omega))
  have hr0 : r = 0 := by
    have := hr.2.symm.trans aw4
    simp at this; omega
  subst hr0
  clear s5 b4 T4 hr
  go_wp2_with fail
  refine (most_in w5 o4 1 p 5 awE3 awR3 3 2 3 5000000000001 T5 (by omega) (by omega) (by omega) aw7 (TL.no (by omega)) ⟨18, by rw [aw5]; simp, by omega⟩).mono ?_
  rintro e w6 ⟨t, o6, rfl, ht, T6, s6⟩
  have b6 := b5.trans (s6.posW (by omega) (by omega))
  have ht0 := awT ht.1
  subst ht0
  have z1 : ((edE awE3 20).u : Int) = 3 := by decide
  have z2 : ((edE awE3 20).v : Int) = 1 := by decide
  have z3 : (edE awE3 20).w = 50 := by decide
  rw [z1, z2, z3]
  clear s6 b5 T5 ht z1 z2 z3
  go_wp2_with fail
  have nX := newStep (fun _ => False) w6 o6 5000000000003 (.cells #[.int .i64 9, .int .i64 3, .int .i64 1, .int .i64 50] 42)
  have BX : Blk (w6.alloc (.cells #[.int .i64 9, .int .i64 3, .int .i64 1, .int .i64 50] 42)) (newLab w6 o6 5000000000003) 5000000000003 w6.heap.size (.cells #[.int .i64 9, .int .i64 3, .int .i64 1, .int .i64 50] 42 (0, 0)) := ⟨heap_alloc_new w6 _, newLab_new (Nat.le_refl _)⟩
  have TX := T6.step nX (fun _ _ => id)
  have bX := b6.trans nX.pos0
  generalize newLab w6 o6 5000000000003 = oX at nX BX TX bX
  clear b6 T6 nX
  refine (path_in _ oX 1 p 5 awE3 awR3 3 2 0 5000000000001 TX (by omega) (by omega) aw8 (TL.no (by omega))).mono ?_
  rintro e w7 ⟨va, o7, rfl, r7, T7, s7⟩
  have b7 := bX.trans (s7.posW (by omega) (by omega))
  have B7 := BX.step s7 (fun h => h.elim (TL.no (by omega)) (by omega))
  rw [aw6] at r7
  have v7 := r7.vw
  clear s7 bX TX r7 BX
  have s8 := newStep (fun _ => False) w7 o7 5000000000002 (.cells #[.int .i64 8, .int .i64 7] 3)
  have u8 := Vw.typed w7 o7 5000000000002 [8, 7] #[.int .i64 8, .int .i64 7] 3 2 rfl rfl (by simp)
  have v8 := v7.step s8 id
  have T8 := T7.step s8 (fun _ _ => id)
  have B8 := B7.step s8 id
  have b8 := b7.trans s8.pos0
  have hsm := same_true _ _ _ _ _ _ _ _ v8 u8 (by simp)
  generalize newLab w7 o7 5000000000002 = o8 at s8 u8 v8 T8 B8 b8
  clear v7 T7 b7 s8 u8 v8
  go_wp2_with fail
  refine hsm.mono ?_
  rintro e w9 ⟨rfl, m9, hw9⟩
  have s9 : Step (fun _ => False) _ o8 w9 o8 := hw9 ▸ (Step.refl _ _ _).drewN m9
  have T9 := T8.step s9 (fun _ _ => id)
  have B9 := B8.step s9 id
  have b9 := b8.trans s9.pos0
  obtain ⟨⟨x0, x1, x2, x3⟩, _⟩ := B9.cell4
  clear T8 B8 b8 s9 hw9 hsm
  go_wp2_with fail
  refine (link_same w9 o8 1 p 5 awE3 awR3 3 3 0 10 1 T9 (by omega) (by omega) (by omega) (by omega) aw9 (by decide)).mono ?_
  rintro e w10 ⟨rfl, T10, s10⟩
  have b10 := (b9.trans (s10.posT (by omega))).old
  clear s10 b9 T9 T10 B9 x0 x1 x2 x3
  go_wp2
  go_ret
  exact ⟨ret_bool (by simp), b10⟩

end Go.Proofs.Ytddjaldamfileaa
