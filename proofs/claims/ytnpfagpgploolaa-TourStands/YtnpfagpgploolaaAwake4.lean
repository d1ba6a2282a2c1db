/- The chapter's first example. -/
import Derived.Test.YtnpfagpgploolaaTt2
namespace Go.Proofs.Ytnpfagpgploolaa
open Go.ChangeShapes Go.WideShapes Go.ChangeAt Go.RowKit Go.Maps
set_option linter.unusedVariables false

theorem Step.posT {w w' : World} {o o' : Nat → Nat} {L : Nat} (s : Step (TL L) w o w' o') (h : 0 < L) : Step Pos w o w' o' := s.mono fun k hk => Nat.lt_of_lt_of_le h hk.1
theorem Step.posW {w w' : World} {o o' : Nat → Nat} {L lb : Nat} (s : Step (fun k => TL L k ∨ k = lb) w o w' o') (h : 0 < L) (h2 : 0 < lb) : Step Pos w o w' o' := s.mono fun k hk => hk.elim (fun hk => Nat.lt_of_lt_of_le h hk.1) (fun hk => by rw [hk]; exact h2)
def awY0 : Nat → List (Nat × Nat) := fun v => [(v, v)]
def awY1 : Nat → List (Nat × Nat) := setY awY0 (linkX (awY0 0) (awY0 1) 0 1)
def awY2 : Nat → List (Nat × Nat) := setY awY1 (linkX (awY1 0) (awY1 2) 0 2)
def awY3 : Nat → List (Nat × Nat) := setY awY2 (linkX (awY2 3) (awY2 2) 3 2)
theorem aw1 : awY0 0 ≠ awY0 1 := by decide
theorem aw2 : awY1 0 ≠ awY1 2 := by decide
theorem aw3 : awY2 3 ≠ awY2 2 := by decide
theorem aw4 : awY3 1 = awY3 3 := by decide
theorem aw5 : walkY (awY2 2) = [0, 2, 1] := by decide
theorem aw6 : walkY (awY3 0) = [3, 2, 1, 0] := by decide
theorem TL.no {k : Nat} (h : 5000 ≤ k) : ¬ TL 1 k := fun x => by have := x.2; omega

/-- A list that is typed out. -/
theorem Vw.typed (w : World) (o : Nat → Nat) (i : Nat) (xs : List Nat) (cs : Array Value) (t : TypeId) (n : Nat) (hn : n = xs.length) (hc : cs.toList = intsL xs) (hl : xs.length ≤ 100) : Vw (w.alloc (.cells cs t)) (newLab w o i) i (.slice (some ⟨w.heap.size, 0, none⟩) n n) xs := by
  subst hn
  refine ⟨_, _, rfl, Nat.le_refl _, by unfold maxLen; omega, fun h => ⟨_, 0, rfl, newLab_new (Nat.le_refl _), by simp, fun j hj => ?_⟩⟩
  have hb : (w.alloc (.cells cs t)).heap[w.heap.size]? = some (.cells cs t (0, 0)) := heap_alloc_new w _
  have hj2 : cs[j]? = some (.int .i64 (xs[j] : Nat)) := by
    rw [← Array.getElem?_toList, hc]; exact intsL_get xs j hj
  rw [cell_of_row _ _ _ _ t (0, 0) hb, Nat.zero_add, hj2]

theorem awake_any (w : World) : Calls Try.prog 6 #[] w fun e w' => e = .returned (.bool true) ∧ Below w.heap.size w w' := by
  have nF : ∀ k, 5000 ≤ k → ¬ TL 1 k := fun k h => TL.no h
  go_enter Try.func6, Try.ntmps6
  go_wp2_with fail
  refine (new_t w o0 1 4 (by omega) (by omega)).mono ?_
  rintro e w1 ⟨p, rfl, o1, T1, s1⟩
  have b1 := s1.posT (by omega)
  clear s1
  go_wp2_with fail
  refine (link_t w1 o1 1 p 4 awY0 _ 0 1 T1 (by omega) (by omega) aw1).mono ?_
  rintro e w2 ⟨rfl, o2, T2, s2⟩
  have b2 := b1.trans (s2.posT (by omega))
  clear s2 b1 T1
  go_wp2_with fail
  refine (link_t w2 o2 1 p 4 awY1 _ 0 2 T2 (by omega) (by omega) aw2).mono ?_
  rintro e w3 ⟨rfl, o3, T3, s3⟩
  have b3 := b2.trans (s3.posT (by omega))
  clear s3 b2 T2
  go_wp2_with fail
  refine (walk_t w3 o3 1 p 4 5001 awY2 _ 2 T3 (by omega) (TL.no (by omega))).mono ?_
  rintro e w4 ⟨va, o4, rfl, r4, T4, s4⟩
  have b4 := b3.trans (s4.posW (by omega) (by omega))
  rw [aw5] at r4
  have v4 := r4.vw
  clear s4 b3 T3 r4
  go_wp2_with fail
  refine (link_t w4 o4 1 p 4 awY2 _ 3 2 T4 (by omega) (by omega) aw3).mono ?_
  rintro e w5 ⟨rfl, o5, T5, s5⟩
  have b5 := b4.trans (s5.posT (by omega))
  have v5 := v4.step s5 (TL.no (by omega))
  clear s5 b4 T4 v4
  go_wp2_with fail
  refine (walk_t w5 o5 1 p 4 5002 awY3 _ 0 T5 (by omega) (TL.no (by omega))).mono ?_
  rintro e w6 ⟨vb, o6, rfl, r6, T6, s6⟩
  have b6 := b5.trans (s6.posW (by omega) (by omega))
  rw [aw6] at r6
  have u6 := r6.vw
  have v6 := v5.step s6 (fun h => h.elim (TL.no (by omega)) (by omega))
  clear s6 b5 T5 v5 r6
  go_wp2_with fail
  refine (link_same_t w6 o6 1 p 4 awY3 _ 1 3 T6 (by omega) (by omega) aw4).mono ?_
  rintro e w7 ⟨rfl, o7, T7, s7⟩
  have b7 := b6.trans (s7.posT (by omega))
  have u7 := u6.step s7 (TL.no (by omega))
  have v7 := v6.step s7 (TL.no (by omega))
  clear s7 b6 T6 v6 u6 T7
  go_wp2_with fail
  have n8 := newStep (fun _ => False) w7 o7 5003 (.cells #[.int .i64 0, .int .i64 2, .int .i64 1] 3)
  have t8 := Vw.typed w7 o7 5003 [0, 2, 1] #[.int .i64 0, .int .i64 2, .int .i64 1] 3 3 rfl rfl (by decide)
  have v8 := v7.step n8 id
  have u8 := u7.step n8 id
  have b8 := b7.trans n8.pos0
  clear n8 v7 u7 b7
  refine (same_true _ _ _ 5001 5003 va _ [0, 2, 1] v8 t8 (by decide)).mono ?_
  rintro e w9 ⟨rfl, m9, hw9⟩
  have s9 : Step (fun _ => False) _ (newLab w7 o7 5003) w9 (newLab w7 o7 5003) := hw9 ▸ (Step.refl _ _ _).drewN m9
  have u9 := u8.step s9 id
  have b9 := b8.trans s9.pos0
  clear s9 t8 v8 u8 b8 hw9
  obtain ⟨o9, ho9⟩ : ∃ o9, o9 = newLab w7 o7 5003 := ⟨_, rfl⟩
  rw [← ho9] at u9 b9
  clear ho9
  go_wp2_with fail
  have n10 := newStep (fun _ => False) w9 o9 5004 (.cells #[.int .i64 3, .int .i64 2, .int .i64 1, .int .i64 0] 3)
  have t10 := Vw.typed w9 o9 5004 [3, 2, 1, 0] #[.int .i64 3, .int .i64 2, .int .i64 1, .int .i64 0] 3 4 rfl rfl (by decide)
  have u10 := u9.step n10 id
  have b10 := b9.trans n10.pos0
  refine (same_true _ _ _ 5002 5004 vb _ [3, 2, 1, 0] u10 t10 (by decide)).mono ?_
  rintro e w11 ⟨rfl, m11, hw11⟩
  have s11 : Step (fun _ => False) _ (newLab w9 o9 5004) w11 (newLab w9 o9 5004) := hw11 ▸ (Step.refl _ _ _).drewN m11
  have b11 := (b10.trans s11.pos0).old
  clear n10 t10 u9 u10 b9 b10 s11 hw11
  go_wp2
  go_ret
  exact ⟨ret_bool (by simp), b11⟩

end Go.Proofs.Ytnpfagpgploolaa
