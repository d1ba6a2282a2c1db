/- The map of places by sets; names in groups. No program but its types. -/
import Derived.Test.YtabkbldhiigcgaaDoorPurgeC
import Derived.DeepKeys4
import Derived.WideKeyPair
namespace Go.Proofs.YtabkbldhiigcgaaDoor
open Go.ChangeShapes Go.WideShapes Go.ChangeAt Go.RowKit Go.Maps
set_option linter.unusedVariables false

theorem laidOutP : laidOutB Tryd.prog = true := by kernel_rfl
theorem setLaw : Keyed Tryd.prog 27 := Keyed.of_law (deep_law_laid laidOutP (m := 2) (by omega) (of_decide_eq_true (by kernel_rfl)) (by kernel_rfl) (by rw [Tryd.underlying27]))
def keyS (x : Nat) : Lit := .string (keyBytes [.int .u64 (x : Nat)])
theorem keyType_set : Tryd.prog.keyType 27 = true := by kernel_rfl
theorem cellsSet : Tryd.prog.cellsOf 27 = 1 := by kernel_rfl
theorem cellsU64 : Tryd.prog.cellsOf 25 = 1 := by kernel_rfl
theorem typesNot : Tryd.prog.types.size = (Tryd.prog.types.size - 1) + 1 := by kernel_rfl
set_option maxRecDepth 100000 in
theorem keyS_of (x : Nat) (hx : x < top64) : keyOf Tryd.prog 27 (sv x) = some (keyS x) := by
  have hw : (Lit.int .u64 (x : Nat)).wf = true := by
    have : x < 18446744073709551616 := hx
    simp [Lit.wf, IntKind.min, IntKind.max, IntKind.signed, IntKind.bits]
    omega
  unfold keyOf
  rw [Tryd.underlying27]
  simp only [keyType_set]
  obtain ⟨tm, htm⟩ : ∃ m, Tryd.prog.types.size = m + 1 := ⟨_, typesNot⟩
  rw [if_pos (by simp [Value.formed, Tryd.underlying27, cellsSet]), htm]
  unfold Program.keyLits
  simp only [Tryd.underlying27, Value.cells]
  rw [if_pos ⟨by rw [cellsSet]; rfl, by simp⟩]
  simp [Program.keyLits, cellsU64, Tryd.underlying25, hw, keyS]
theorem keyS_inj {x y : Nat} (hx : x < top64) (hy : y < top64) (h : keyS x = keyS y) : x = y := by
  have h1 := keyS_of x hx
  rw [h] at h1
  have h2 := setLaw.inj h1 (keyS_of y hy)
  simp at h2
  omega
theorem keyS_key (x : Nat) : WideAt.IsKeyLit (keyS x) := trivial
theorem zeroInt9 (w : World) : (zeroValue 3).run Tryd.prog w = .ok (.int .i64 0) w := by kernel_rfl
/-- Places by sets, turned at one set. -/
def updK (f : Nat → Option Nat) (x k : Nat) : Nat → Option Nat := fun y => if y = x then some k else f y
/-- Block b, under label i, is a map of m entries from sets to places. -/
def PlM (w : World) (o : Nat → Nat) (i b m : Nat) (f : Nat → Option Nat) : Prop :=
  ∃ D : DataW Unit, w.ownsMap Tryd.prog 27 (plainElem Tryd.prog 3) b m D ∧ Maps.size D = m ∧ o b = i ∧
    ∀ x, x < top64 → Maps.has D (keyS x) = (f x).isSome ∧ ∀ k, f x = some k → D.atKey (keyS x) (.lit (.int .i64 0)) = .lit (.int .i64 (k : Nat))
theorem PlM.step {I : Nat → Prop} {w w' : World} {o o' : Nat → Nat} {i b m : Nat} {f : Nat → Option Nat} (h : PlM w o i b m f) (s : Step I w o w' o') (hi : ¬ I i) : PlM w' o' i b m f := by
  obtain ⟨D, h1, h2, h3, h4⟩ := h
  exact ⟨D, own_step h1 s (by rw [h3]; exact hi), h2, (s.lab b h1.lt).trans h3, h4⟩
theorem PlM.made (w : World) (o : Nat → Nat) (i : Nat) : PlM (w.alloc (.map #[] 0)) (newLab w o i) i w.heap.size 0 (fun _ => none) :=
  ⟨.map [], World.ownsMap_made _ _ _ _, rfl, newLab_new (Nat.le_refl _), fun x _ => ⟨rfl, fun k h => by simp at h⟩⟩
theorem PlM.look {w : World} {o : Nat → Nat} {i b m : Nat} {f : Nat → Option Nat} (h : PlM w o i b m f) {x : Nat} (hx : x < top64) {k : Nat} (hf : f x = some k) :
    (Instr.lookup 98 (.map (some b)) (sv x) true).run Tryd.prog w = .ok (.tuple #[.int .i64 (k : Nat), .bool true]) w := by
  obtain ⟨D, h1, h2, h3, h4⟩ := h
  obtain ⟨c, ps, hr, hc⟩ := h1.look_ok setLaw Tryd.underlying98 (zeroInt9 w) (plainElem_int Tryd.underlying3 (by decide)) (keyS_of x hx)
  rw [(h4 x hx).2 k hf] at hc
  obtain ⟨a, rfl, ha, _⟩ := plainElem_int_inv Tryd.underlying3 hc
  simp at ha
  rw [hr, (h4 x hx).1, hf, ← ha.1]
  rfl
theorem PlM.miss {w : World} {o : Nat → Nat} {i b m : Nat} {f : Nat → Option Nat} (h : PlM w o i b m f) {x : Nat} (hx : x < top64) (hf : f x = none) :
    ∃ a : Int, (Instr.lookup 98 (.map (some b)) (sv x) true).run Tryd.prog w = .ok (.tuple #[.int .i64 a, .bool false]) w := by
  obtain ⟨D, h1, h2, h3, h4⟩ := h
  obtain ⟨c, ps, hr, hc⟩ := h1.look_ok setLaw Tryd.underlying98 (zeroInt9 w) (plainElem_int Tryd.underlying3 (by decide)) (keyS_of x hx)
  obtain ⟨a, rfl, ha, _⟩ := plainElem_int_inv Tryd.underlying3 hc
  rw [(h4 x hx).1, hf] at hr
  exact ⟨a, hr⟩
theorem PlM.put {w : World} {o : Nat → Nat} {i b m : Nat} {f : Nat → Option Nat} (h : PlM w o i b m f) {x : Nat} (hx : x < top64) (k : Nat) (hk : k ≤ 100000) (hf : f x = none) (hm : m ≤ 100000) :
    ∃ w', (Instr.mapUpdate 98 (.map (some b)) (sv x) (.int .i64 (k : Nat))).run Tryd.prog w = .ok () w' ∧ PlM w' o i b (m + 1) (updK f x k) ∧ Step (fun x => x = i) w o w' o := by
  obtain ⟨D, h1, h2, h3, h4⟩ := h
  obtain ⟨w', hr, ho, ht⟩ := h1.store setLaw Tryd.underlying98 (by unfold maxLen; omega) (keyS_of x hx) (plainElem_int Tryd.underlying3 (WalkArith.wf_i64 (by omega) : (Lit.int .i64 (k : Nat)).wf = true))
  have hsz : Maps.size (D.put (keyS x) (.lit (.int .i64 (k : Nat)))) = m + 1 := by rw [size_put (h1.tidy setLaw), (h4 x hx).1, hf]; simp [h2]
  refine ⟨w', hr, ⟨_, ho, hsz, h3, fun y hy => ?_⟩, turned_step ht h3⟩
  unfold updK
  by_cases e : y = x
  · subst e
    rw [if_pos rfl, has_put_same h1.isMap (keyS_key _), atKey_put_same h1.isMap (keyS_key _)]
    exact ⟨rfl, fun k' hk' => by cases hk'; rfl⟩
  · have hne : keyS y ≠ keyS x := fun h => e (keyS_inj hy hx h)
    rw [if_neg e, has_put_other hne, atKey_put_other hne]
    exact h4 y hy

/-- The groups of names so far: each set with its names, in the order in which they came. -/
abbrev Grp : Type := List (Nat × List ByteArray)
/-- A name more in the group at place i. -/
def putG (G : Grp) (i : Nat) (s : ByteArray) : Grp := match G[i]? with
  | some (x, l) => G.set i (x, l ++ [s])
  | none => G
/-- What the groups of the names l are: by sets, in the order of first names. -/
structure GrpOf (F : ByteArray → Option Nat) (l : List ByteArray) (G : Grp) : Prop where
  sets : ∀ i (h : i < G.length), ∀ s, s ∈ (G[i]).2 ↔ s ∈ l ∧ F s = some (G[i]).1
  full : ∀ i (h : i < G.length), (G[i]).2 ≠ []
  apart : ∀ i j (hi : i < G.length) (hj : j < G.length), (G[i]).1 = (G[j]).1 → i = j
  all : ∀ s x, s ∈ l → F s = some x → ∃ i, ∃ h : i < G.length, (G[i]).1 = x
  sub : ∀ i (h : i < G.length), (G[i]).2.Sublist l
  heads : ∀ i j (hi : i < G.length) (hj : j < G.length), i < j → ∃ a b A B C, (G[i]).2.head? = some a ∧ (G[j]).2.head? = some b ∧ l = A ++ a :: (B ++ b :: C)
theorem GrpOf.nil (F : ByteArray → Option Nat) : GrpOf F [] [] :=
  ⟨fun i h => by simp at h, fun i h => by simp at h, fun i j hi => by simp at hi, fun s x hs => by simp at hs, fun i h => by simp at h, fun i j hi => by simp at hi⟩
/-- Places tell where each set's group is. -/
def PlOf (f : Nat → Option Nat) (G : Grp) : Prop := (∀ i (h : i < G.length), f (G[i]).1 = some i) ∧ ∀ x i, f x = some i → ∃ h : i < G.length, (G[i]).1 = x
theorem putG_len (G : Grp) (i : Nat) (s : ByteArray) : (putG G i s).length = G.length := by
  unfold putG; split <;> simp
theorem putG_at (G : Grp) (i : Nat) (s : ByteArray) (hi : i < G.length) : putG G i s = G.set i ((G[i]).1, (G[i]).2 ++ [s]) := by
  unfold putG; rw [List.getElem?_eq_getElem hi]
theorem putG_same (G : Grp) (i : Nat) (s : ByteArray) (hi : i < G.length) (h : i < (putG G i s).length) : (putG G i s)[i] = ((G[i]).1, (G[i]).2 ++ [s]) := by
  simp only [putG_at G i s hi, List.getElem_set_self]
theorem putG_other (G : Grp) (i j : Nat) (s : ByteArray) (hi : i < G.length) (h : j < (putG G i s).length) (hj : j < G.length) (e : i ≠ j) : (putG G i s)[j] = G[j] := by
  simp only [putG_at G i s hi, List.getElem_set_ne e]
theorem PlOf.put {f : Nat → Option Nat} {G : Grp} (h : PlOf f G) (i : Nat) (s : ByteArray) (hi : i < G.length) : PlOf f (putG G i s) := by
  have key : ∀ j (hj : j < (putG G i s).length) (hj' : j < G.length), ((putG G i s)[j]).1 = (G[j]).1 := fun j hj hj' => by
    by_cases e : i = j
    · subst e; rw [putG_same G i s hi]
    · rw [putG_other G i j s hi hj hj' e]
  refine ⟨fun j hj => ?_, fun x j hx => ?_⟩
  · have hj' : j < G.length := by rw [putG_len] at hj; exact hj
    rw [key j hj hj']; exact h.1 j hj'
  · obtain ⟨hj, e⟩ := h.2 x j hx
    exact ⟨by rw [putG_len]; exact hj, by rw [key j (by rw [putG_len]; exact hj) hj]; exact e⟩
theorem PlOf.new {f : Nat → Option Nat} {G : Grp} (h : PlOf f G) (x : Nat) (l : List ByteArray) (hx : f x = none) : PlOf (updK f x G.length) (G ++ [(x, l)]) := by
  refine ⟨fun j hj => ?_, fun y j hy => ?_⟩
  · unfold updK
    by_cases e : j < G.length
    · rw [List.getElem_append_left e, if_neg (fun q => by have := h.1 j e; rw [q, hx] at this; cases this)]
      exact h.1 j e
    · have ej : j = G.length := by simp at hj; omega
      subst ej
      simp
  · unfold updK at hy
    split at hy
    · rename_i e
      cases hy
      exact ⟨by simp, by simp [e]⟩
    · obtain ⟨hj, e⟩ := h.2 y j hy
      exact ⟨by simp; omega, by rw [List.getElem_append_left hj]; exact e⟩
end Go.Proofs.YtabkbldhiigcgaaDoor
