/- The map of edges by their IDs, under a label. No program but its types. -/
import Derived.Test.YtffmlffhiimmdaaRehang
import Derived.Maps.OwnSet
import Derived.DeepKeys4
import Derived.WideKeyPair
namespace Go.Proofs.Ytffmlffhiimmdaa
open Go.ChangeShapes Go.WideShapes Go.ChangeAt Go.RowKit Go.Maps
set_option linter.unusedVariables false

theorem own_tight {P : Program} {K : TypeId} {R : Value → Option (DataW Unit × List MemPlace)} {w : World} {b n : Nat} {D : DataW Unit} (h : w.ownsMap P K R b n D) : w.ownsMap P K R b (Maps.size D) D := by
  obtain ⟨es, clock, hb, F, hs, rfl⟩ := h
  exact ⟨es, clock, hb, F, by simp [Maps.size, length_sorted], rfl⟩
theorem own_step {P : Program} {K : TypeId} {R : Value → Option (DataW Unit × List MemPlace)} {w w' : World} {o o' : Nat → Nat} {I : Nat → Prop} {b n : Nat} {D : DataW Unit} (h : w.ownsMap P K R b n D) (s : Step I w o w' o') (hi : ¬ I (o b)) : w'.ownsMap P K R b n D := by
  have hlt := h.lt
  obtain ⟨es, clock, hb, F, hs, hD⟩ := h
  exact ⟨es, clock, (s.block b hlt hi).trans hb, F, hs, hD⟩
theorem turned_step {w w' : World} {o : Nat → Nat} {b i : Nat} (h : w.mapTurned w' b) (hb : o b = i) : Step (fun k => k = i) w o w' o :=
  let g := h.grown
  ⟨g.os, g.tape, g.output, g.size, fun _ _ => rfl, fun k hk hn => g.block k hk (fun e => hn (by cases e; exact hb))⟩
theorem intLaw : Keyed Try.prog 3 := int_keyed Try.underlying3
theorem intKey (k : Int) : WideAt.IsKeyLit (.int .i64 k) := trivial
theorem zeroPE (w : World) : (zeroValue 86).run Try.prog w = .ok (.pointer none) w := by kernel_rfl
def In64 (k : Int) : Prop := -9223372036854775808 ≤ k ∧ k ≤ 9223372036854775807
theorem In64.wf {k : Int} (h : In64 k) : (Lit.int .i64 k).wf = true := WalkArith.wf_i64 (by have := h.1; have := h.2; omega)
/-- How an element that is a pointer to a block's head reads. -/
def ptrElem : Value → Option (DataW Unit × List MemPlace)
  | .pointer none => some (.lit (.int .i64 (-1)), [])
  | .pointer (some ⟨b, 0, none⟩) => some (.lit (.int .i64 b), [])
  | _ => none
def ptrN : Option Nat → Int
  | none => -1
  | some b => b
def ptrV : Option Nat → Value
  | none => .pointer none
  | some b => .pointer (some ⟨b, 0, none⟩)
theorem ptrElem_inv {v : Value} {f : Option Nat} {ps : List MemPlace} (h : ptrElem v = some (.lit (.int .i64 (ptrN f)), ps)) : v = ptrV f := by
  unfold ptrElem at h
  split at h
  · simp at h
    cases f with
    | none => rfl
    | some b => simp [ptrN] at h
  · simp at h
    cases f with
    | none => simp [ptrN] at h
    | some b => simp [ptrN] at h; have h1 := h.1; have : _ = b := Int.ofNat.inj h1; unfold ptrV; rw [this]
  · cases h
/-- Block b, under label i, is a map of at most m entries from IDs to blocks. -/
def EdM (w : World) (o : Nat → Nat) (i b m : Nat) (f : Int → Option Nat) : Prop :=
  ∃ D : DataW Unit, w.ownsMap Try.prog 3 ptrElem b (Maps.size D) D ∧ Maps.size D ≤ m ∧ o b = i ∧ ∀ k, In64 k → D.atKey (.int .i64 k) (.lit (.int .i64 (-1))) = .lit (.int .i64 (ptrN (f k)))
theorem EdM.step {I : Nat → Prop} {w w' : World} {o o' : Nat → Nat} {i b m : Nat} {f : Int → Option Nat} (h : EdM w o i b m f) (s : Step I w o w' o') (hi : ¬ I i) : EdM w' o' i b m f := by
  obtain ⟨D, h1, h2, h3, h4⟩ := h
  exact ⟨D, own_step h1 s (by rw [h3]; exact hi), h2, (s.lab b h1.lt).trans h3, h4⟩
theorem EdM.congr {w : World} {o : Nat → Nat} {i b m : Nat} {f g : Int → Option Nat} (h : EdM w o i b m f) (e : ∀ k, In64 k → g k = f k) : EdM w o i b m g := by
  obtain ⟨D, h1, h2, h3, h4⟩ := h
  exact ⟨D, h1, h2, h3, fun k hk => by rw [e k hk]; exact h4 k hk⟩
theorem EdM.made (w : World) (o : Nat → Nat) (i : Nat) : EdM (w.alloc (.map #[] 0)) (newLab w o i) i w.heap.size 0 (fun _ => none) :=
  ⟨.map [], World.ownsMap_made _ _ _ _, Nat.le_refl _, newLab_new (Nat.le_refl _), fun k _ => rfl⟩
theorem EdM.look {w : World} {o : Nat → Nat} {i b m : Nat} {f : Int → Option Nat} (h : EdM w o i b m f) (k : Int) (hk : In64 k) : (Instr.lookup 79 (.map (some b)) (.int .i64 k) false).run Try.prog w = .ok (ptrV (f k)) w := by
  obtain ⟨D, h1, h2, h3, h4⟩ := h
  obtain ⟨c, ps, hr, hc⟩ := h1.lookup intLaw Try.underlying79 (zeroPE w) (zd := .lit (.int .i64 (-1))) (zp := []) rfl (keyOf_int_mk Try.underlying3 hk.wf)
  rw [h4 k hk] at hc
  rw [hr, ptrElem_inv hc]
theorem EdM.put {w : World} {o : Nat → Nat} {i b m : Nat} {f : Int → Option Nat} (h : EdM w o i b m f) (k : Int) (c : Nat) (hk : In64 k) (hm : m ≤ 100000) :
    ∃ w', (Instr.mapUpdate 79 (.map (some b)) (.int .i64 k) (.pointer (some ⟨c, 0, none⟩))).run Try.prog w = .ok () w' ∧ EdM w' o i b (m + 1) (fun j => if j = k then some c else f j) ∧ Step (fun x => x = i) w o w' o := by
  obtain ⟨D, h1, h2, h3, h4⟩ := h
  obtain ⟨w', hr, ho, ht⟩ := h1.store (val := .pointer (some ⟨c, 0, none⟩)) (d := .lit (.int .i64 c)) (ps := []) intLaw Try.underlying79 (by unfold maxLen; omega) (keyOf_int_mk Try.underlying3 hk.wf) rfl
  have hsz : Maps.size (D.put (.int .i64 k) (.lit (.int .i64 c))) ≤ m + 1 := by rw [size_put (h1.tidy intLaw)]; split <;> omega
  refine ⟨w', hr, ⟨_, own_tight ho, hsz, h3, fun j hj => ?_⟩, turned_step ht h3⟩
  by_cases e : j = k
  · subst e
    rw [atKey_put_same h1.isMap (intKey _)]; simp [ptrN]
  · have hne : Lit.int .i64 j ≠ Lit.int .i64 k := fun h => e (by simp at h; exact h)
    rw [atKey_put_other hne]
    simp only [e, if_false]
    exact h4 j hj
theorem EdM.del {w : World} {o : Nat → Nat} {i b m : Nat} {f : Int → Option Nat} (h : EdM w o i b m f) (k : Int) (hk : In64 k) (ty : TypeId) :
    ∃ w', (Builtin.delete_ #[79, 3] ty #[.map (some b), .int .i64 k]).run Try.prog w = .ok (.tuple #[]) w' ∧ EdM w' o i b m (fun j => if j = k then none else f j) ∧ Step (fun x => x = i) w o w' o := by
  obtain ⟨D, h1, h2, h3, h4⟩ := h
  obtain ⟨w', hr, ho, ht⟩ := h1.drop intLaw Try.underlying79 (keyOf_int_mk Try.underlying3 hk.wf) ty
  have hsz := size_del (k := .int .i64 k) (h1.tidy intLaw)
  refine ⟨w', hr, ⟨_, own_tight ho, ?_, h3, fun j hj => ?_⟩, turned_step ht h3⟩
  · split at hsz <;> omega
  by_cases e : j = k
  · subst e
    rw [atKey_del_same]; simp [ptrN]
  · have hne : Lit.int .i64 j ≠ Lit.int .i64 k := fun h => e (by simp at h; exact h)
    rw [atKey_del_other hne]
    simp only [e, if_false]
    exact h4 j hj

end Go.Proofs.Ytffmlffhiimmdaa
