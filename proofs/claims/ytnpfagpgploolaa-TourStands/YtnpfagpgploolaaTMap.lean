/- Maps that a law's call itself makes, under a label: what stands at each key: from two numbers to a number, from a number to two. No program but its types. -/
import Derived.Test.YtnpfagpgploolaaMem
import Derived.Test.YtnpfagpgploolaaProg
import Derived.Maps.OwnSet
import Derived.DeepKeys4
import Derived.WideKeyPair
namespace Go.Proofs.Ytnpfagpgploolaa
open Go.ChangeShapes Go.WideShapes Go.ChangeAt Go.RowKit Go.Maps
set_option linter.unusedVariables false

theorem own_tight {P : Program} {K : TypeId} {R : Value → Option (DataW Unit × List MemPlace)} {w : World} {b n : Nat} {D : DataW Unit} (h : w.ownsMap P K R b n D) : w.ownsMap P K R b (Maps.size D) D := by
  obtain ⟨es, clock, hb, F, hs, rfl⟩ := h
  exact ⟨es, clock, hb, F, by simp [Maps.size, length_sorted], rfl⟩
theorem own_step {P : Program} {K : TypeId} {R : Value → Option (DataW Unit × List MemPlace)} {w w' : World} {o o' : Nat → Nat} {I : Nat → Prop} {b n : Nat} {D : DataW Unit} (h : w.ownsMap P K R b n D) (s : Step I w o w' o') (hi : ¬ I (o b)) : w'.ownsMap P K R b n D := by
  have hlt := h.lt
  obtain ⟨es, clock, hb, F, hs, hD⟩ := h
  exact ⟨es, clock, (s.block b hlt hi).trans hb, F, hs, hD⟩
theorem turned_step {w w' : World} {o : Nat → Nat} {b i : Nat} (h : w.mapTurned w' b) (hb : o b = i) : Step (fun k => k = i) w o w' o :=
  let g := h.grown
  ⟨g.os, g.tape, g.output, g.size, fun _ _ => rfl, fun k hk hn => g.block k hk (fun e => hn (by cases e; exact hb))⟩

theorem laidOutP : laidOutB Try.prog = true := by kernel_rfl
theorem stepArr : WideMaps.ArrKey Try.prog 75 3 2 := ⟨Try.underlying75, by kernel_rfl, by kernel_rfl, by kernel_rfl⟩
theorem stepLaw : Keyed Try.prog 75 := Keyed.of_law (deep_law_laid laidOutP (m := 2) (by omega) (of_decide_eq_true (by kernel_rfl)) (by kernel_rfl) (by rw [Try.underlying75]))
theorem intLaw : Keyed Try.prog 3 := int_keyed Try.underlying3
theorem typesSize : ∃ m, Try.prog.types.size = m + 1 := ⟨_, (by kernel_rfl : Try.prog.types.size = (Try.prog.types.size - 1) + 1)⟩
theorem wfNat (a : Nat) (h : a ≤ 100000) : (Lit.int .i64 (a : Int)).wf = true := WalkArith.wf_i64 (by omega)

/-- The key of a step. -/
def keyL (u v : Nat) : Lit := .string (keyBytes [.int .i64 u, .int .i64 v])
theorem keyL_of (u v : Nat) (hu : u ≤ 100000) (hv : v ≤ 100000) : keyOf Try.prog 75 (.agg #[.int .i64 u, .int .i64 v]) = some (keyL u v) :=
  WideMaps.keyOf_pair stepArr Try.underlying3 typesSize (wfNat u hu) (wfNat v hv)
theorem keyL_inj {u v x y : Nat} (hu : u ≤ 100000) (hv : v ≤ 100000) (hx : x ≤ 100000) (hy : y ≤ 100000) (h : keyL u v = keyL x y) : u = x ∧ v = y := by
  have h1 := keyL_of u v hu hv
  rw [h] at h1
  have h2 := stepLaw.inj h1 (keyL_of x y hx hy)
  simp at h2
  omega
theorem keyL_key (u v : Nat) : WideAt.IsKeyLit (keyL u v) := trivial
theorem intKey (k : Int) : WideAt.IsKeyLit (.int .i64 k) := trivial
theorem zeroInt (w : World) : (zeroValue 3).run Try.prog w = .ok (.int .i64 0) w := by kernel_rfl
theorem zeroStep (w : World) : (zeroValue 75).run Try.prog w = .ok (.agg #[.int .i64 0, .int .i64 0]) w := by kernel_rfl

/-- Block b, under label i, is a map of m entries from steps to numbers; 0: there is none. -/
def StM (w : World) (o : Nat → Nat) (i b m : Nat) (f : Nat → Nat → Nat) : Prop :=
  ∃ D : DataW Unit, w.ownsMap Try.prog 75 (plainElem Try.prog 3) b m D ∧ Maps.size D = m ∧ o b = i ∧ ∀ u v, u < 64 → v < 64 → Maps.has D (keyL u v) = decide (f u v ≠ 0) ∧ D.atKey (keyL u v) (.lit (.int .i64 0)) = .lit (.int .i64 (f u v))
theorem StM.step {I : Nat → Prop} {w w' : World} {o o' : Nat → Nat} {i b m : Nat} {f : Nat → Nat → Nat} (h : StM w o i b m f) (s : Step I w o w' o') (hi : ¬ I i) : StM w' o' i b m f := by
  obtain ⟨D, h1, h2, h3, h4⟩ := h
  exact ⟨D, own_step h1 s (by rw [h3]; exact hi), h2, (s.lab b h1.lt).trans h3, h4⟩
theorem StM.made (w : World) (o : Nat → Nat) (i : Nat) : StM (w.alloc (.map #[] 0)) (newLab w o i) i w.heap.size 0 (fun _ _ => 0) :=
  ⟨.map [], World.ownsMap_made _ _ _ _, rfl, newLab_new (Nat.le_refl _), fun u v _ _ => ⟨rfl, rfl⟩⟩
theorem StM.look {w : World} {o : Nat → Nat} {i b m : Nat} {f : Nat → Nat → Nat} (h : StM w o i b m f) (u v : Nat) (hu : u < 64) (hv : v < 64) : (Instr.lookup 69 (.map (some b)) (.agg #[.int .i64 u, .int .i64 v]) false).run Try.prog w = .ok (.int .i64 (f u v)) w := by
  obtain ⟨D, h1, h2, h3, h4⟩ := h
  obtain ⟨c, hr, hc, _⟩ := h1.lookup_int stepLaw Try.underlying69 Try.underlying3 (zeroInt w) (keyL_of u v (by omega) (by omega))
  rw [(h4 u v hu hv).2] at hc
  simp at hc
  rw [hr, ← hc]
theorem StM.lookOk {w : World} {o : Nat → Nat} {i b m : Nat} {f : Nat → Nat → Nat} (h : StM w o i b m f) (u v : Nat) (hu : u < 64) (hv : v < 64) : (Instr.lookup 69 (.map (some b)) (.agg #[.int .i64 u, .int .i64 v]) true).run Try.prog w = .ok (.tuple #[.int .i64 (f u v), .bool (decide (f u v ≠ 0))]) w := by
  obtain ⟨D, h1, h2, h3, h4⟩ := h
  obtain ⟨c, ps, hr, hc⟩ := h1.look_ok stepLaw Try.underlying69 (zeroInt w) (plainElem_int Try.underlying3 (by decide)) (keyL_of u v (by omega) (by omega))
  rw [(h4 u v hu hv).2] at hc
  obtain ⟨a, rfl, ha, _⟩ := plainElem_int_inv Try.underlying3 hc
  simp at ha
  rw [hr, (h4 u v hu hv).1, ← ha.1]
/-- A function of two numbers, turned at one place. -/
def upd2 (f : Nat → Nat → Nat) (u v h : Nat) : Nat → Nat → Nat := fun x y => if x = u ∧ y = v then h else f x y
theorem StM.put {w : World} {o : Nat → Nat} {i b m : Nat} {f : Nat → Nat → Nat} (h : StM w o i b m f) (u v k : Nat) (hu : u < 64) (hv : v < 64) (h0 : f u v = 0) (hk : k ≠ 0) (hk2 : k ≤ 100000) (hm : m ≤ 100000) :
    ∃ w', (Instr.mapUpdate 69 (.map (some b)) (.agg #[.int .i64 u, .int .i64 v]) (.int .i64 k)).run Try.prog w = .ok () w' ∧ StM w' o i b (m + 1) (upd2 f u v k) ∧ Step (fun x => x = i) w o w' o := by
  obtain ⟨D, h1, h2, h3, h4⟩ := h
  obtain ⟨w', hr, ho, ht⟩ := h1.store stepLaw Try.underlying69 (by unfold maxLen; omega) (keyL_of u v (by omega) (by omega)) (plainElem_int Try.underlying3 (wfNat k hk2))
  have hh := (h4 u v hu hv).1
  rw [h0] at hh
  have hsz : Maps.size (D.put (keyL u v) (.lit (.int .i64 k))) = m + 1 := by rw [size_put (h1.tidy stepLaw), hh]; simp [h2]
  refine ⟨w', hr, ⟨_, ho, hsz, h3, fun x y hx hy => ?_⟩, turned_step ht h3⟩
  unfold upd2
  by_cases e : x = u ∧ y = v
  · obtain ⟨rfl, rfl⟩ := e
    refine ⟨?_, ?_⟩
    · rw [has_put_same h1.isMap (keyL_key _ _)]; simp [hk]
    · rw [atKey_put_same h1.isMap (keyL_key _ _)]; simp
  · have hne : keyL x y ≠ keyL u v := fun h => e (keyL_inj (by omega) (by omega) (by omega) (by omega) h)
    rw [has_put_other hne, atKey_put_other hne]
    simp only [e, if_false]
    exact h4 x y hx hy
theorem StM.del {w : World} {o : Nat → Nat} {i b m : Nat} {f : Nat → Nat → Nat} (h : StM w o i b m f) (u v : Nat) (hu : u < 64) (hv : v < 64) (h0 : f u v ≠ 0) (ty : TypeId) :
    ∃ w', (Builtin.delete_ #[69, 75] ty #[.map (some b), .agg #[.int .i64 u, .int .i64 v]]).run Try.prog w = .ok (.tuple #[]) w' ∧ 0 < m ∧ StM w' o i b (m - 1) (upd2 f u v 0) ∧ Step (fun x => x = i) w o w' o := by
  obtain ⟨D, h1, h2, h3, h4⟩ := h
  obtain ⟨w', hr, ho, ht⟩ := h1.drop stepLaw Try.underlying69 (keyL_of u v (by omega) (by omega)) ty
  have hh := (h4 u v hu hv).1
  rw [decide_eq_true h0] at hh
  have hsz := size_del (k := keyL u v) (h1.tidy stepLaw)
  rw [hh, h2] at hsz
  simp only [if_true] at hsz
  have hsz' : Maps.size (D.del (keyL u v)) = m - 1 := by omega
  have ho' := own_tight ho
  rw [hsz'] at ho'
  refine ⟨w', hr, by omega, ⟨_, ho', hsz', h3, fun x y hx hy => ?_⟩, turned_step ht h3⟩
  unfold upd2
  by_cases e : x = u ∧ y = v
  · obtain ⟨rfl, rfl⟩ := e
    rw [has_del_same, atKey_del_same]
    simp
  · have hne : keyL x y ≠ keyL u v := fun h => e (keyL_inj (by omega) (by omega) (by omega) (by omega) h)
    rw [has_del_other hne, atKey_del_other hne]
    simp only [e, if_false]
    exact h4 x y hx hy

/-- How an element that is a step reads. -/
def pairList : List Value → Option (DataW Unit × List MemPlace)
  | [.int .i64 a, .int .i64 b] => some (.agg [.lit (.int .i64 a), .lit (.int .i64 b)], [])
  | _ => none
def pairElem (v : Value) : Option (DataW Unit × List MemPlace) :=
  match v with
  | .agg cs => pairList cs.toList
  | _ => none
theorem pairElem_mk (a b : Int) : pairElem (.agg #[.int .i64 a, .int .i64 b]) = some (.agg [.lit (.int .i64 a), .lit (.int .i64 b)], []) := rfl
theorem pairElem_inv {v : Value} {a b : Int} {ps : List MemPlace} (h : pairElem v = some (.agg [.lit (.int .i64 a), .lit (.int .i64 b)], ps)) : v = .agg #[.int .i64 a, .int .i64 b] := by
  unfold pairElem at h
  split at h
  · rename_i cs
    unfold pairList at h
    split at h
    · rename_i x y e
      simp at h
      obtain ⟨⟨rfl, rfl⟩, _⟩ := h
      congr 1
      exact Array.toList_inj.1 e
    · cases h
  · cases h
/-- Block b, under label i, is a map of m entries from handles to steps: just the live ones are there. -/
def GoM (w : World) (o : Nat → Nat) (i b m : Nat) (live : Nat → Prop) (g : Nat → Nat × Nat) : Prop :=
  ∃ D : DataW Unit, w.ownsMap Try.prog 3 pairElem b m D ∧ Maps.size D = m ∧ o b = i ∧ ∀ k, k ≤ 2000 → (live k → Maps.has D (.int .i64 (k : Nat)) = true ∧ D.atKey (.int .i64 (k : Nat)) (.agg [.lit (.int .i64 0), .lit (.int .i64 0)]) = .agg [.lit (.int .i64 ((g k).1 : Nat)), .lit (.int .i64 ((g k).2 : Nat))]) ∧ (¬ live k → Maps.has D (.int .i64 (k : Nat)) = false)
theorem GoM.step {I : Nat → Prop} {w w' : World} {o o' : Nat → Nat} {i b m : Nat} {live : Nat → Prop} {g : Nat → Nat × Nat} (h : GoM w o i b m live g) (s : Step I w o w' o') (hi : ¬ I i) : GoM w' o' i b m live g := by
  obtain ⟨D, h1, h2, h3, h4⟩ := h
  exact ⟨D, own_step h1 s (by rw [h3]; exact hi), h2, (s.lab b h1.lt).trans h3, h4⟩
theorem GoM.made (w : World) (o : Nat → Nat) (i : Nat) (live : Nat → Prop) (g : Nat → Nat × Nat) (hl : ∀ k, ¬ live k) : GoM (w.alloc (.map #[] 0)) (newLab w o i) i w.heap.size 0 live g :=
  ⟨.map [], World.ownsMap_made _ _ _ _, rfl, newLab_new (Nat.le_refl _), fun k _ => ⟨fun h => (hl k h).elim, fun _ => rfl⟩⟩
theorem GoM.look {w : World} {o : Nat → Nat} {i b m : Nat} {live : Nat → Prop} {g : Nat → Nat × Nat} (h : GoM w o i b m live g) (k : Nat) (hk : k ≤ 2000) (hl : live k) : (Instr.lookup 70 (.map (some b)) (.int .i64 (k : Nat)) false).run Try.prog w = .ok (.agg #[.int .i64 ((g k).1 : Nat), .int .i64 ((g k).2 : Nat)]) w := by
  obtain ⟨D, h1, h2, h3, h4⟩ := h
  obtain ⟨c, ps, hr, hc⟩ := h1.lookup intLaw Try.underlying70 (zeroStep w) (zd := .agg [.lit (.int .i64 0), .lit (.int .i64 0)]) (zp := []) rfl (keyOf_int_mk Try.underlying3 (wfNat k (by omega)))
  rw [((h4 k hk).1 hl).2] at hc
  rw [hr, pairElem_inv hc]
theorem GoM.put {w : World} {o : Nat → Nat} {i b m : Nat} {live : Nat → Prop} {g : Nat → Nat × Nat} (h : GoM w o i b m live g) (k u v : Nat) (hk : k ≤ 2000) (hl : ¬ live k) (hm : m ≤ 100000) (live' : Nat → Prop) (hl' : ∀ j, live' j ↔ live j ∨ j = k) :
    ∃ w', (Instr.mapUpdate 70 (.map (some b)) (.int .i64 (k : Nat)) (.agg #[.int .i64 u, .int .i64 v])).run Try.prog w = .ok () w' ∧ GoM w' o i b (m + 1) live' (fun j => if j = k then (u, v) else g j) ∧ Step (fun x => x = i) w o w' o := by
  obtain ⟨D, h1, h2, h3, h4⟩ := h
  obtain ⟨w', hr, ho, ht⟩ := h1.store (val := .agg #[.int .i64 u, .int .i64 v]) (d := .agg [.lit (.int .i64 u), .lit (.int .i64 v)]) (ps := []) intLaw Try.underlying70 (by unfold maxLen; omega) (keyOf_int_mk Try.underlying3 (wfNat k (by omega))) rfl
  have hh := (h4 k hk).2 hl
  have hsz : Maps.size (D.put (.int .i64 (k : Nat)) (.agg [.lit (.int .i64 u), .lit (.int .i64 v)])) = m + 1 := by rw [size_put (h1.tidy intLaw), hh]; simp [h2]
  refine ⟨w', hr, ⟨_, ho, hsz, h3, fun j hj => ?_⟩, turned_step ht h3⟩
  by_cases e : j = k
  · subst e
    rw [has_put_same h1.isMap (intKey _), atKey_put_same h1.isMap (intKey _)]
    exact ⟨fun _ => ⟨rfl, by simp⟩, fun hn => (hn ((hl' j).2 (.inr rfl))).elim⟩
  · have hne : Lit.int .i64 (j : Nat) ≠ Lit.int .i64 (k : Nat) := fun h => e (by simp at h; omega)
    rw [has_put_other hne, atKey_put_other hne]
    simp only [e, if_false]
    exact ⟨fun hj' => (h4 j hj).1 (((hl' j).1 hj').resolve_right e), fun hn => (h4 j hj).2 (fun hx => hn ((hl' j).2 (.inl hx)))⟩
theorem GoM.del {w : World} {o : Nat → Nat} {i b m : Nat} {live : Nat → Prop} {g : Nat → Nat × Nat} (h : GoM w o i b m live g) (k : Nat) (hk : k ≤ 2000) (hl : live k) (live' : Nat → Prop) (hl' : ∀ j, live' j ↔ live j ∧ j ≠ k) (ty : TypeId) :
    ∃ w', (Builtin.delete_ #[70, 3] ty #[.map (some b), .int .i64 (k : Nat)]).run Try.prog w = .ok (.tuple #[]) w' ∧ 0 < m ∧ GoM w' o i b (m - 1) live' g ∧ Step (fun x => x = i) w o w' o := by
  obtain ⟨D, h1, h2, h3, h4⟩ := h
  obtain ⟨w', hr, ho, ht⟩ := h1.drop intLaw Try.underlying70 (keyOf_int_mk Try.underlying3 (wfNat k (by omega))) ty
  have hh := ((h4 k hk).1 hl).1
  have hsz := size_del (k := .int .i64 (k : Nat)) (h1.tidy intLaw)
  rw [hh, h2] at hsz
  simp only [if_true] at hsz
  have hsz' : Maps.size (D.del (.int .i64 (k : Nat))) = m - 1 := by omega
  have ho' := own_tight ho
  rw [hsz'] at ho'
  refine ⟨w', hr, by omega, ⟨_, ho', hsz', h3, fun j hj => ?_⟩, turned_step ht h3⟩
  by_cases e : j = k
  · subst e
    rw [has_del_same]
    exact ⟨fun hx => ((hl' j).1 hx).2.elim rfl, fun _ => rfl⟩
  · have hne : Lit.int .i64 (j : Nat) ≠ Lit.int .i64 (k : Nat) := fun h => e (by simp at h; omega)
    rw [has_del_other hne, atKey_del_other hne]
    exact ⟨fun hj' => (h4 j hj).1 ((hl' j).1 hj').1, fun hn => (h4 j hj).2 (fun hx => hn ((hl' j).2 ⟨hx, e⟩))⟩

end Go.Proofs.Ytnpfagpgploolaa
