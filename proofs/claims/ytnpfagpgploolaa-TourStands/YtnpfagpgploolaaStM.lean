/- What the tours' law TourStands keeps by its own book. No program. -/
import Derived.Test.YtnpfagpgploolaaMarksM
namespace Go.Proofs.Ytnpfagpgploolaa
set_option linter.unusedVariables false

/-- A vertex' item. -/
def itV (val : Nat → Int) (bn : Nat → Bool) (v : Nat) : It := ⟨val v, true, if bn v then 1 else 0⟩
/-- What a tour comes to is what its vertices do. -/
theorem agg_walk {X : List (Nat × Nat)} {val : Nat → Int} {mk : Nat × Nat → Bool} {bn : Nat → Bool} (h1 : ∀ v, mk (v, v) = bn v) (h2 : ∀ s : Nat × Nat, s.1 ≠ s.2 → mk s = false) : agg (X.map (Dm val mk)) = agg ((walkY X).map (itV val bn)) := by
  induction X with
  | nil => rfl
  | cons x X ih =>
    obtain ⟨a, b⟩ := x
    by_cases e : a = b
    · subst e
      have : walkY ((a, a) :: X) = a :: walkY X := by simp [walkY]
      rw [this]
      simp only [List.map_cons, agg]
      rw [ih]
      congr 1
      simp [Dm, itV, It.one, h1]
    · have : walkY ((a, b) :: X) = walkY X := by simp [walkY, e]
      rw [this]
      simp only [List.map_cons, agg]
      rw [ih]
      have hz : (Dm val mk (a, b)).one = Ag.zero := by simp [Dm, It.one, e, h2 (a, b) e, Ag.zero]
      rw [hz, zero_both]
theorem agg_countV (val : Nat → Int) (bn : Nat → Bool) (xs : List Nat) : (agg (xs.map (itV val bn))).count = xs.length := by
  induction xs with
  | nil => rfl
  | cons x xs ih => simp only [List.map_cons, agg, both_count, ih, List.length_cons]; simp [itV, It.one]; omega
theorem agg_flagsV (val : Nat → Int) (bn : Nat → Bool) (xs : List Nat) : (agg (xs.map (itV val bn))).flags = 0 ∨ (agg (xs.map (itV val bn))).flags = 1 := by
  induction xs with
  | nil => exact .inl rfl
  | cons x xs ih =>
    simp only [List.map_cons, agg, both_flags]
    have : (itV val bn x).one.flags = 0 ∨ (itV val bn x).one.flags = 1 := by cases h : bn x <;> simp [itV, It.one, h]
    rcases this with h1 | h1 <;> rcases ih with h2 | h2 <;> rw [h1, h2] <;> simp
theorem agg_sumV (val : Nat → Int) (bn : Nat → Bool) (hv : ∀ v, -1000 ≤ val v ∧ val v ≤ 1000) (xs : List Nat) : -1000 * (xs.length : Int) ≤ (agg (xs.map (itV val bn))).sum ∧ (agg (xs.map (itV val bn))).sum ≤ 1000 * (xs.length : Int) := by
  induction xs with
  | nil => simp [agg, Ag.zero]
  | cons x xs ih =>
    simp only [List.map_cons, agg, both_sum, List.length_cons]
    have := hv x
    have e : (itV val bn x).one.sum = val x := by simp [itV, It.one]
    rw [e]; omega
/-- The next vertex. -/
theorem aggV_next (val : Nat → Int) (bn : Nat → Bool) (xs : List Nat) (x : Nat) : agg ((xs ++ [x]).map (itV val bn)) =
    ⟨xs.length + 1, (agg (xs.map (itV val bn))).sum + val x, if xs.length = 0 then val x else min (agg (xs.map (itV val bn))).least (val x), if xs.length = 0 then val x else max (agg (xs.map (itV val bn))).most (val x), if bn x then 1 else (agg (xs.map (itV val bn))).flags⟩ := by
  rw [List.map_append, List.map_cons, List.map_nil, agg_snoc]
  have e1 : (itV val bn x).one = ⟨1, val x, val x, val x, if bn x then 1 else 0⟩ := by simp [itV, It.one]
  apply Ag.ext2
  · rw [both_count, agg_countV, e1]
  · rw [both_sum, e1]
  · rw [both_least, agg_countV, e1]; by_cases h : xs.length = 0 <;> simp [h]
  · rw [both_most, agg_countV, e1]; by_cases h : xs.length = 0 <;> simp [h]
  · rw [both_flags, e1]
    rcases agg_flagsV val bn xs with h | h <;> rw [h] <;> cases bn x <;> simp
/-- Lists with no number twice that have the same numbers are as long. -/
theorem nodup_le {a b : List Nat} (ha : a.Nodup) (h : ∀ x ∈ a, x ∈ b) : a.length ≤ b.length := by
  induction a generalizing b with
  | nil => simp
  | cons x a ih =>
    obtain ⟨P, Q, rfl⟩ := List.append_of_mem (h x (by simp))
    have hn := List.nodup_cons.1 ha
    have := ih (b := P ++ Q) hn.2 (fun y hy => by
      have := h y (List.mem_cons_of_mem _ hy)
      rcases List.mem_append.1 this with q | q
      · exact List.mem_append.2 (.inl q)
      · rcases List.mem_cons.1 q with q | q
        · exact absurd (q ▸ hy) hn.1
        · exact List.mem_append.2 (.inr q))
    simp only [List.length_append, List.length_cons] at this ⊢
    omega
/-- How many are of a tree. -/
def manyY (Y : Nat → List (Nat × Nat)) (v m : Nat) : Nat := ((List.range m).filter (fun u => decide (Y u = Y v))).length
theorem manyY_next (Y : Nat → List (Nat × Nat)) (v m : Nat) : manyY Y v (m + 1) = manyY Y v m + (if Y m = Y v then 1 else 0) := by
  unfold manyY
  rw [List.range_succ, List.filter_append, List.length_append]
  by_cases h : Y m = Y v <;> simp [h]
theorem manyY_le (Y : Nat → List (Nat × Nat)) (v m : Nat) : manyY Y v m ≤ m := by
  unfold manyY
  have := List.length_filter_le (fun u => decide (Y u = Y v)) (List.range m)
  simpa using this
theorem mem_walkY2 {X : List (Nat × Nat)} {v : Nat} : v ∈ walkY X ↔ (v, v) ∈ X := by
  unfold walkY
  rw [List.mem_map]
  constructor
  · rintro ⟨s, hs, rfl⟩
    obtain ⟨h1, h2⟩ := List.mem_filter.1 hs
    simp at h2
    obtain ⟨a, b⟩ := s
    simp at h2; subst h2; exact h1
  · intro h; exact ⟨(v, v), List.mem_filter.2 ⟨h, by simp⟩, rfl⟩
theorem nodup_walkY2 {X : List (Nat × Nat)} (h : X.Nodup) : (walkY X).Nodup := by
  unfold walkY List.Nodup
  rw [List.pairwise_map]
  refine List.Pairwise.imp_of_mem (R := fun a b => a ≠ b) (fun ha hb hne e => ?_) (h.filter _)
  obtain ⟨_, h1⟩ := List.mem_filter.1 ha
  obtain ⟨_, h2⟩ := List.mem_filter.1 hb
  simp at h1 h2
  exact hne (Prod.ext (by rw [h1, h2]; exact e) e)
theorem manyY_walk {n ms v : Nat} {Y : Nat → List (Nat × Nat)} (E : Eu n ms Y) (hv : v < n) : manyY Y v n = (walkY (Y v)).length := by
  have h1 : ∀ u, u ∈ walkY (Y v) ↔ u < n ∧ Y u = Y v := fun u => by rw [mem_walkY2, E.iff2 hv]
  have n1 := nodup_walkY2 (E.nodup v hv)
  have n2 : ((List.range n).filter (fun u => decide (Y u = Y v))).Nodup := List.Pairwise.filter _ List.nodup_range
  apply Nat.le_antisymm
  · exact nodup_le n2 (fun x hx => by rw [h1]; simpa using hx)
  · exact nodup_le n1 (fun x hx => by rw [h1] at hx; simpa using hx)
/-- What the book says. -/
structure BookM (n : Nat) (Y : Nat → List (Nat × Nat)) (val : Nat → Int) (mk : Nat × Nat → Bool) (bn : Nat → Bool) (l : List (Nat × Nat)) (c : Nat) : Prop where
  told : Told n Y l
  once : Once l
  len : l.length ≤ c
  stop : ∀ v, mk (v, v) = bn v
  none : ∀ s : Nat × Nat, s.1 ≠ s.2 → mk s = false
  vals : ∀ v, -1000 ≤ val v ∧ val v ≤ 1000
theorem BookM.new (n : Nat) : BookM n (fun v => [(v, v)]) (fun _ => 0) (fun _ => false) (fun _ => false) [] 0 :=
  ⟨Told.new n, List.Pairwise.nil, Nat.le_refl _, fun _ => rfl, fun _ _ => rfl, fun _ => by omega⟩
theorem BookM.more {n : Nat} {Y : Nat → List (Nat × Nat)} {val : Nat → Int} {mk : Nat × Nat → Bool} {bn : Nat → Bool} {l : List (Nat × Nat)} {c : Nat} (B : BookM n Y val mk bn l c) : BookM n Y val mk bn l (c + 1) := ⟨B.told, B.once, Nat.le_succ_of_le B.len, B.stop, B.none, B.vals⟩
theorem BookM.link {n ms u v : Nat} {Y : Nat → List (Nat × Nat)} {val : Nat → Int} {mk : Nat × Nat → Bool} {bn : Nat → Bool} {l : List (Nat × Nat)} {c : Nat} (E : Eu n ms Y) (B : BookM n Y val mk bn l c) (hu : u < n) (hv : v < n) (hne : Y u ≠ Y v) :
    BookM n (setY Y (linkX (Y u) (Y v) u v)) val (updM (updM mk (u, v) false) (v, u) false) bn (l ++ [(u, v)]) (c + 1) := by
  have huv : u ≠ v := fun e => hne (by rw [e])
  have no : ∀ s ∈ l, s ≠ (u, v) ∧ s ≠ (v, u) := fun s hs => by
    obtain ⟨h1, h2, h3⟩ := B.told.lt s hs
    have hm := (B.told.has s.1 s.2 h1 h2 h3).2 (.inl hs)
    have e : Y s.2 = Y s.1 := (E.one s.1 h1 _ hm).2.2.2
    exact ⟨fun q => hne (by rw [q] at e; exact e.symm), fun q => hne (by rw [q] at e; exact e)⟩
  refine ⟨B.told.link E hu hv hne, ?_, by simp; exact B.len, fun w => ?_, fun s hs => ?_, B.vals⟩
  · show List.Pairwise _ _
    rw [List.pairwise_append]
    refine ⟨B.once, List.pairwise_singleton _ _, fun a ha b hb => ?_⟩
    simp at hb; subst hb; exact no a ha
  · have : (w, w) ≠ (u, v) ∧ (w, w) ≠ (v, u) := by simp only [ne_eq, Prod.mk.injEq]; omega
    simp only [updM, this.1, this.2, if_false]; exact B.stop w
  · unfold updM
    by_cases e1 : s = (v, u)
    · rw [if_pos e1]
    · rw [if_neg e1]
      by_cases e2 : s = (u, v)
      · rw [if_pos e2]
      · rw [if_neg e2]; exact B.none s hs
theorem BookM.turn {n ms v : Nat} {Y : Nat → List (Nat × Nat)} {val : Nat → Int} {mk : Nat × Nat → Bool} {bn : Nat → Bool} {l : List (Nat × Nat)} {c : Nat} (E : Eu n ms Y) (B : BookM n Y val mk bn l c) (hv : v < n) : BookM n (setY Y (turnX (Y v) (v, v))) val mk bn l (c + 1) :=
  ⟨B.told.turn E hv, B.once, Nat.le_succ_of_le B.len, B.stop, B.none, B.vals⟩
theorem BookM.cut {n ms u v a b : Nat} {Y : Nat → List (Nat × Nat)} {val : Nat → Int} {mk : Nat × Nat → Bool} {bn : Nat → Bool} {l l' : List (Nat × Nat)} {c : Nat} {A M B' : List (Nat × Nat)} (E : Eu n ms Y) (B : BookM n Y val mk bn l c) (hu : u < n) (hv : v < n) (huv : u ≠ v) (hw : (a = u ∧ b = v) ∨ (a = v ∧ b = u)) (e : Y u = A ++ (a, b) :: (M ++ (b, a) :: B')) (hl : Out l l' u v) :
    BookM n (setY (setY Y M) (A ++ B')) val mk bn l' (c + 1) := by
  refine ⟨?_, hl.once, Nat.le_succ_of_le (Nat.le_trans hl.len B.len), B.stop, B.none, B.vals⟩
  rcases hw with ⟨rfl, rfl⟩ | ⟨rfl, rfl⟩
  · exact B.told.cut E hu huv e hl.mem
  · have hs : (a, b) ∈ Y b := by rw [e]; simp
    have ea : Y a = Y b := (E.one b hu _ hs).2.2.1
    exact B.told.cut E hv huv.symm (by rw [ea]; exact e) (fun s => by rw [hl.mem]; exact ⟨fun h => ⟨h.1, h.2.2, h.2.1⟩, fun h => ⟨h.1, h.2.2, h.2.1⟩⟩)
theorem BookM.value {n : Nat} {Y : Nat → List (Nat × Nat)} {val : Nat → Int} {mk : Nat × Nat → Bool} {bn : Nat → Bool} {l : List (Nat × Nat)} {c : Nat} (B : BookM n Y val mk bn l c) (v : Nat) (x : Int) (hx : -1000 ≤ x ∧ x ≤ 1000) : BookM n Y (fun u => if u = v then x else val u) mk bn l (c + 1) :=
  ⟨B.told, B.once, Nat.le_succ_of_le B.len, B.stop, B.none, fun u => by split; exact hx; exact B.vals u⟩
theorem BookM.mark {n : Nat} {Y : Nat → List (Nat × Nat)} {val : Nat → Int} {mk : Nat × Nat → Bool} {bn : Nat → Bool} {l : List (Nat × Nat)} {c : Nat} (B : BookM n Y val mk bn l c) (v : Nat) (b : Bool) : BookM n Y val (updM mk (v, v) b) (fun u => if u = v then b else bn u) l (c + 1) :=
  ⟨B.told, B.once, Nat.le_succ_of_le B.len, fun u => by
    unfold updM
    by_cases e : u = v
    · subst e; simp
    · rw [if_neg (fun q => e (by simp only [Prod.mk.injEq] at q; exact q.1)), if_neg e]; exact B.stop u, fun s hs => by
    unfold updM
    rw [if_neg (fun q => hs (by rw [q]))]; exact B.none s hs, B.vals⟩
theorem BookM.has {n : Nat} {Y : Nat → List (Nat × Nat)} {val : Nat → Int} {mk : Nat × Nat → Bool} {bn : Nat → Bool} {l : List (Nat × Nat)} {c u v : Nat} (B : BookM n Y val mk bn l c) (hu : u < n) (hv : v < n) : (u ≠ v ∧ (u, v) ∈ Y u) ↔ ((u, v) ∈ l ∨ (v, u) ∈ l) := by
  constructor
  · rintro ⟨h1, h2⟩; exact (B.told.has u v hu hv h1).1 h2
  · intro h
    have huv : u ≠ v := by
      rcases h with h | h
      · exact (B.told.lt _ h).2.2
      · exact (B.told.lt _ h).2.2.symm
    exact ⟨huv, (B.told.has u v hu hv huv).2 h⟩

end Go.Proofs.Ytnpfagpgploolaa
