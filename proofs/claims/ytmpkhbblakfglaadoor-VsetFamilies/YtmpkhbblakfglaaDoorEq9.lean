/- Are two of the document's sets the same? -/
import Derived.Test.YtmpkhbblakfglaaDoorRefT9
namespace Go.Proofs.YtmpkhbblakfglaaDoor
open Go.ChangeShapes Go.WideShapes Go.ChangeAt Go.RowKit Go.Maps
set_option linter.unusedVariables false
theorem infoBool9 : (Tryd.prog.info? 4).map (fun i => (i.zero, i.size, i.bytes)) = some (some (.bool false), 1, 1) := by kernel_rfl
theorem forIn_all {P : Program} (f : Nat → Bool) (B : Nat → Option Bool × Unit → Sem (ForInStep (Option Bool × Unit))) : ∀ (l : List Nat), (∀ i, i ∈ l → ∀ w, (B i (none, ())).run P w = .ok (if f i then ForInStep.yield (none, ()) else ForInStep.done (some false, ())) w) → ∀ w, (forIn l (none, ()) B).run P w = .ok (if l.all f then (none, ()) else (some false, ())) w
  | [], _, w => by simp
  | i :: l, h, w => by
    have ih := forIn_all f B l (fun j hj => h j (List.mem_cons_of_mem _ hj)) w
    rw [List.forIn_cons, Sem.run_bind, h i (List.mem_cons_self ..) w, List.all_cons]
    cases f i
    · simp
    · simpa using ih
theorem eq_arr (d x y : Nat) (w : World) : (Op.equalIn (d + 1 + 1) 55 (.agg (b64 x).toArray) (.agg (b64 y).toArray)).run Tryd.prog w = .ok ((List.range 64).all fun i => x.testBit i == y.testBit i) w := by
  obtain ⟨ii, hii, hzi0, hzi1, hzi2⟩ := info_parts infoBool9
  have h1 := fun w => run_underlying (w := w) Tryd.underlying55
  rw [Op.equalIn]
  simp only [Sem.run_bind, h1, Result.andThen_ok]
  have h4 : ∀ (w : World), (isAgg 4).run Tryd.prog w = .ok false w := fun w => by simp [isAgg, run_underlying (w := w) Tryd.underlying4]
  simp [sizeOf, typeInfo, hii, hzi1, part]
  rw [forIn_all (fun i => x.testBit i == y.testBit i), ← List.range_eq_range']
  · cases ((List.range 64).all fun i => x.testBit i == y.testBit i) <;> simp
  · intro i hi w
    have hi64 : i < 64 := by
      have := List.mem_range'.1 hi
      omega
    simp only [Sem.run_bind, h4, Result.andThen_ok, b64_get x hi64, b64_get y hi64, Bool.false_eq_true, if_false, Sem.run_pure, run_equalIn_bool' w d 4 _ _ Tryd.underlying4, Sem.run_ite]
    cases (x.testBit i == y.testBit i) <;> simp
theorem all_eq {x y : Nat} (hx : x < top64) (hy : y < top64) : ((List.range 64).all fun i => x.testBit i == y.testBit i) = decide (x = y) := by
  by_cases e : x = y
  · subst e; simp
  · rw [decide_eq_false e]
    refine Bool.eq_false_iff.2 fun h => e (ext64 hx hy fun i hi => ?_)
    have := List.all_eq_true.1 h i (List.mem_range.2 hi)
    simpa using this
theorem eq_arr64 {x y : Nat} (hx : x < top64) (hy : y < top64) (w : World) : (Op.equalIn 9999 55 (.agg (List.take 64 (b64 x)).toArray) (.agg (List.take 64 (b64 y)).toArray)).run Tryd.prog w = .ok (decide (x = y)) w := by
  rw [List.take_of_length_le (by rw [b64_len]; exact Nat.le_refl _), List.take_of_length_le (by rw [b64_len]; exact Nat.le_refl _), ← all_eq hx hy]
  exact eq_arr 9997 x y w
end Go.Proofs.YtmpkhbblakfglaaDoor
