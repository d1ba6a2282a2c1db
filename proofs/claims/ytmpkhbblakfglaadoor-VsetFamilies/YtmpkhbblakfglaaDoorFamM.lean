/- The map of a family: sets by names, under a label. No program but its types. -/
import Derived.Test.YtmpkhbblakfglaaDoorAllC
import Derived.Maps.OwnSet
import Derived.StringKeys
namespace Go.Proofs.YtmpkhbblakfglaaDoor
open Go.ChangeShapes Go.WideShapes Go.ChangeAt Go.RowKit Go.Maps
set_option linter.unusedVariables false

theorem own_tight {P : Program} {K : TypeId} {R : Value → Option (DataW Unit × List MemPlace)} {w : World} {b n : Nat} {D : DataW Unit} (h : w.ownsMap P K R b n D) : w.ownsMap P K R b (Maps.size D) D := by
  obtain ⟨es, clock, hb, F, hs, rfl⟩ := h
  exact ⟨es, clock, hb, F, by simp [Maps.size, length_sorted], rfl⟩
theorem own_step {P : Program} {K : TypeId} {R : Value → Option (DataW Unit × List MemPlace)} {w w' : World} {o o' : Nat → Nat} {I : Nat → Prop} {b n : Nat} {D : DataW Unit} (h : w.ownsMap P K R b n D) (s : Step I w o w' o') (hi : ¬ I (o b)) : w'.ownsMap P K R b n D := by
  have hlt := h.lt
  obtain ⟨es, clock, hb, F, hs, hD⟩ := h
  exact ⟨es, clock, (s.block b hlt hi).trans hb, F, hs, hD⟩
theorem turned_step {w w' : World} {o : Nat → Nat} {b i : Nat} (h : w.mapTurned w' b) (hb : o b = i) : Step (fun k => k = i) w o w' o :=
  let g := h.grown
  ⟨g.os, g.tape, g.output, g.size, fun _ _ => rfl, fun k hk hn => g.block k hk (fun e => hn (by cases e; exact hb))⟩

/-- How an element reads. -/
def stList : List Value → Option (DataW Unit × List MemPlace)
  | [.int .u64 a] => some (.agg [.lit (.int .u64 a)], [])
  | _ => none
def stElem (v : Value) : Option (DataW Unit × List MemPlace) :=
  match v with
  | .agg cs => stList cs.toList
  | _ => none
def stD (a : Int) : DataW Unit := .agg [.lit (.int .u64 a)]
theorem stElem_mk (a : Int) : stElem (.agg #[.int .u64 a]) = some (stD a, []) := rfl
theorem stElem_form {v : Value} {y : DataW Unit × List MemPlace} (h : stElem v = some y) : ∃ a, v = .agg #[.int .u64 a] ∧ y = (stD a, []) := by
  unfold stElem at h
  split at h
  · rename_i cs
    unfold stList at h
    split at h
    · rename_i a e
      simp at h
      refine ⟨a, ?_, h.symm⟩
      congr 1
      exact Array.toList_inj.1 e
    · cases h
  · cases h
theorem stElem_inv {v : Value} {a : Int} {ps : List MemPlace} (h : stElem v = some (stD a, ps)) : v = .agg #[.int .u64 a] := by
  obtain ⟨a', rfl, e⟩ := stElem_form h
  simp only [stD, Prod.mk.injEq, DataW.agg.injEq, List.cons.injEq, DataW.lit.injEq, Lit.int.injEq, true_and, and_true] at e
  rw [e.1]
theorem zeroSt (w : World) : (zeroValue 42).run Tryd.prog w = .ok (.agg #[.int .u64 0]) w := by kernel_rfl
theorem strLaw : Keyed Tryd.prog 9 := string_keyed Tryd.underlying9
theorem strKey (s : ByteArray) : WideAt.IsKeyLit (.string s.data.toList) := trivial
theorem strKey_of (s : ByteArray) (h : s.size ≤ maxLen) : keyOf Tryd.prog 9 (.string s) = some (.string s.data.toList) := WideMaps.keyOf_string_mk Tryd.underlying9 h
theorem strKey_inj {s t : ByteArray} (h : Lit.string s.data.toList = Lit.string t.data.toList) : s = t := by
  injection h with h
  exact ByteArray.ext (Array.toList_inj.1 h)

/-- Sets by names, turned at one name. -/
def updN (F : ByteArray → Option Nat) (s : ByteArray) (x : Option Nat) : ByteArray → Option Nat := fun t => if t = s then x else F t
/-- Block b, under label i, is a map of m entries from names to sets. -/
def SfM (w : World) (o : Nat → Nat) (i b m : Nat) (F : ByteArray → Option Nat) : Prop :=
  ∃ D : DataW Unit, w.ownsMap Tryd.prog 9 stElem b m D ∧ Maps.size D = m ∧ o b = i ∧
    ∀ s : ByteArray, Maps.has D (.string s.data.toList) = (F s).isSome ∧ ∀ x, F s = some x → D.atKey (.string s.data.toList) (stD 0) = stD (x : Nat)
theorem SfM.step {I : Nat → Prop} {w w' : World} {o o' : Nat → Nat} {i b m : Nat} {F : ByteArray → Option Nat} (h : SfM w o i b m F) (s : Step I w o w' o') (hi : ¬ I i) : SfM w' o' i b m F := by
  obtain ⟨D, h1, h2, h3, h4⟩ := h
  exact ⟨D, own_step h1 s (by rw [h3]; exact hi), h2, (s.lab b h1.lt).trans h3, h4⟩
theorem SfM.made (w : World) (o : Nat → Nat) (i : Nat) : SfM (w.alloc (.map #[] 0)) (newLab w o i) i w.heap.size 0 (fun _ => none) :=
  ⟨.map [], World.ownsMap_made _ _ _ _, rfl, newLab_new (Nat.le_refl _), fun s => ⟨rfl, fun x h => by simp at h⟩⟩
theorem SfM.look {w : World} {o : Nat → Nat} {i b m : Nat} {F : ByteArray → Option Nat} (h : SfM w o i b m F) {s : ByteArray} (hs : s.size ≤ maxLen) {x : Nat} (hf : F s = some x) :
    (Instr.lookup 52 (.map (some b)) (.string s) false).run Tryd.prog w = .ok (sv x) w := by
  obtain ⟨D, h1, h2, h3, h4⟩ := h
  obtain ⟨c, ps, hr, hc⟩ := h1.lookup strLaw Tryd.underlying52 (zeroSt w) (stElem_mk 0) (strKey_of s hs)
  rw [(h4 s).2 x hf] at hc
  rw [hr, stElem_inv hc]
theorem SfM.lookOk {w : World} {o : Nat → Nat} {i b m : Nat} {F : ByteArray → Option Nat} (h : SfM w o i b m F) {s : ByteArray} (hs : s.size ≤ maxLen) :
    ∃ y : Int, (Instr.lookup 52 (.map (some b)) (.string s) true).run Tryd.prog w = .ok (.tuple #[.agg #[.int .u64 y], .bool (F s).isSome]) w := by
  obtain ⟨D, h1, h2, h3, h4⟩ := h
  obtain ⟨c, ps, hr, hc⟩ := h1.look_ok strLaw Tryd.underlying52 (zeroSt w) (stElem_mk 0) (strKey_of s hs)
  obtain ⟨a, rfl, _⟩ := stElem_form hc
  rw [(h4 s).1] at hr
  exact ⟨a, hr⟩
theorem SfM.put {w : World} {o : Nat → Nat} {i b m : Nat} {F : ByteArray → Option Nat} (h : SfM w o i b m F) {s : ByteArray} (hs : s.size ≤ maxLen) (x : Nat) (hm : m ≤ 100000) :
    ∃ w', (Instr.mapUpdate 52 (.map (some b)) (.string s) (sv x)).run Tryd.prog w = .ok () w' ∧ SfM w' o i b (if (F s).isSome = true then m else m + 1) (updN F s (some x)) ∧ Step (fun x => x = i) w o w' o := by
  obtain ⟨D, h1, h2, h3, h4⟩ := h
  obtain ⟨w', hr, ho, ht⟩ := h1.store (val := sv x) (d := stD (x : Nat)) (ps := []) strLaw Tryd.underlying52 (by unfold maxLen; omega) (strKey_of s hs) rfl
  have hsz : Maps.size (D.put (.string s.data.toList) (stD (x : Nat))) = if (F s).isSome = true then m else m + 1 := by
    rw [size_put (h1.tidy strLaw), h2, (h4 s).1]
  have ho' := own_tight ho
  rw [hsz] at ho'
  refine ⟨w', hr, ⟨_, ho', hsz, h3, fun t => ?_⟩, turned_step ht h3⟩
  unfold updN
  by_cases e : t = s
  · subst e
    rw [if_pos rfl, has_put_same h1.isMap (strKey _), atKey_put_same h1.isMap (strKey _)]
    exact ⟨rfl, fun y hy => by cases hy; rfl⟩
  · have hne : Lit.string t.data.toList ≠ Lit.string s.data.toList := fun h => e (strKey_inj h)
    rw [if_neg e, has_put_other hne, atKey_put_other hne]
    exact h4 t
theorem SfM.del {w : World} {o : Nat → Nat} {i b m : Nat} {F : ByteArray → Option Nat} (h : SfM w o i b m F) {s : ByteArray} (hs : s.size ≤ maxLen) (hf : (F s).isSome = true) (ty : TypeId) :
    ∃ w', (Builtin.delete_ #[52, 9] ty #[.map (some b), .string s]).run Tryd.prog w = .ok (.tuple #[]) w' ∧ SfM w' o i b (m - 1) (updN F s none) ∧ Step (fun x => x = i) w o w' o := by
  obtain ⟨D, h1, h2, h3, h4⟩ := h
  obtain ⟨w', hr, ho, ht⟩ := h1.drop strLaw Tryd.underlying52 (strKey_of s hs) ty
  have hsz := size_del (k := .string s.data.toList) (h1.tidy strLaw)
  rw [(h4 s).1, hf, h2] at hsz
  simp only [if_true] at hsz
  have hsz' : Maps.size (D.del (.string s.data.toList)) = m - 1 := by omega
  have ho' := own_tight ho
  rw [hsz'] at ho'
  refine ⟨w', hr, ⟨_, ho', hsz', h3, fun t => ?_⟩, turned_step ht h3⟩
  unfold updN
  by_cases e : t = s
  · subst e
    rw [if_pos rfl, has_del_same]
    exact ⟨rfl, fun y hy => by cases hy⟩
  · have hne : Lit.string t.data.toList ≠ Lit.string s.data.toList := fun h => e (strKey_inj h)
    rw [if_neg e, has_del_other hne, atKey_del_other hne]
    exact h4 t
theorem SfM.len {w : World} {o : Nat → Nat} {i b m : Nat} {F : ByteArray → Option Nat} (h : SfM w o i b m F) (ty : TypeId) :
    (Builtin.len_ #[52] ty #[.map (some b)]).run Tryd.prog w = .ok (.int .i64 (m : Nat)) w := by
  obtain ⟨D, h1, h2, h3, h4⟩ := h
  rw [h1.len Tryd.underlying52 ty, h2]
end Go.Proofs.YtmpkhbblakfglaaDoor
