/- Names in groups: a name more. No program. -/
import Derived.Test.YtmpkhbblakfglaaDoorPurgeC
import Derived.DeepKeys4
import Derived.WideKeyPair
namespace Go.Proofs.YtmpkhbblakfglaaDoor
open Go.ChangeShapes Go.WideShapes Go.ChangeAt Go.RowKit Go.Maps
set_option linter.unusedVariables false

theorem laidOutP : laidOutB Tryd.prog = true := by kernel_rfl
theorem setLaw : Keyed Tryd.prog 42 := Keyed.of_law (deep_law_laid laidOutP (m := 2) (by omega) (of_decide_eq_true (by kernel_rfl)) (by kernel_rfl) (by rw [Tryd.underlying42]))
def keyS (x : Nat) : Lit := .string (keyBytes [.int .u64 (x : Nat)])
theorem keyType_set : Tryd.prog.keyType 42 = true := by kernel_rfl
theorem cellsSet : Tryd.prog.cellsOf 42 = 1 := by kernel_rfl
theorem cellsU64 : Tryd.prog.cellsOf 40 = 1 := by kernel_rfl
theorem typesNot : Tryd.prog.types.size = (Tryd.prog.types.size - 1) + 1 := by kernel_rfl
set_option maxRecDepth 100000 in
theorem keyS_of (x : Nat) (hx : x < top64) : keyOf Tryd.prog 42 (sv x) = some (keyS x) := by
  have hw : (Lit.int .u64 (x : Nat)).wf = true := by
    have : x < 18446744073709551616 := hx
    simp [Lit.wf, IntKind.min, IntKind.max, IntKind.signed, IntKind.bits]
    omega
  unfold keyOf
  rw [Tryd.underlying42]
  simp only [keyType_set]
  obtain ⟨tm, htm⟩ : ∃ m, Tryd.prog.types.size = m + 1 := ⟨_, typesNot⟩
  rw [if_pos (by simp [Value.formed, Tryd.underlying42, cellsSet]), htm]
  unfold Program.keyLits
  simp only [Tryd.underlying42, Value.cells]
  rw [if_pos ⟨by rw [cellsSet]; rfl, by simp⟩]
  simp [Program.keyLits, cellsU64, Tryd.underlying40, hw, keyS]
theorem keyS_inj {x y : Nat} (hx : x < top64) (hy : y < top64) (h : keyS x = keyS y) : x = y := by
  have h1 := keyS_of x hx
  rw [h] at h1
  have h2 := setLaw.inj h1 (keyS_of y hy)
  simp at h2
  omega
theorem keyS_key (x : Nat) : WideAt.IsKeyLit (keyS x) := trivial
theorem zeroInt9 (w : World) : (zeroValue 3).run Tryd.prog w = .ok (.int .i64 0) w := by kernel_rfl
/-- Places by sets, turned at one set. -/
def updK (f : Nat → Option Nat) (x k : Nat) : Nat → Option Nat := fun y => if y = x then some k else f y
/-- Block b, under label i, is a map of m entries from sets to places. -/
def PlM (w : World) (o : Nat → Nat) (i b m : Nat) (f : Nat → Option Nat) : Prop :=
  ∃ D : DataW Unit, w.ownsMap Tryd.prog 42 (plainElem Tryd.prog 3) b m D ∧ Maps.size D = m ∧ o b = i ∧
    ∀ x, x < top64 → Maps.has D (keyS x) = (f x).isSome ∧ ∀ k, f x = some k → D.atKey (keyS x) (.lit (.int .i64 0)) = .lit (.int .i64 (k : Nat))
theorem PlM.step {I : Nat → Prop} {w w' : World} {o o' : Nat → Nat} {i b m : Nat} {f : Nat → Option Nat} (h : PlM w o i b m f) (s : Step I w o w' o') (hi : ¬ I i) : PlM w' o' i b m f := by
  obtain ⟨D, h1, h2, h3, h4⟩ := h
  exact ⟨D, own_step h1 s (by rw [h3]; exact hi), h2, (s.lab b h1.lt).trans h3, h4⟩
theorem PlM.made (w : World) (o : Nat → Nat) (i : Nat) : PlM (w.alloc (.map #[] 0)) (newLab w o i) i w.heap.size 0 (fun _ => none) :=
  ⟨.map [], World.ownsMap_made _ _ _ _, rfl, newLab_new (Nat.le_refl _), fun x _ => ⟨rfl, fun k h => by simp at h⟩⟩
theorem PlM.look {w : World} {o : Nat → Nat} {i b m : Nat} {f : Nat → Option Nat} (h : PlM w o i b m f) {x : Nat} (hx : x < top64) {k : Nat} (hf : f x = some k) :
    (Instr.lookup 81 (.map (some b)) (sv x) true).run Tryd.prog w = .ok (.tuple #[.int .i64 (k : Nat), .bool true]) w := by
  obtain ⟨D, h1, h2, h3, h4⟩ := h
  obtain ⟨c, ps, hr, hc⟩ := h1.look_ok setLaw Tryd.underlying81 (zeroInt9 w) (plainElem_int Tryd.underlying3 (by decide)) (keyS_of x hx)
  rw [(h4 x hx).2 k hf] at hc
  obtain ⟨a, rfl, ha, _⟩ := plainElem_int_inv Tryd.underlying3 hc
  simp at ha
  rw [hr, (h4 x hx).1, hf, ← ha.1]
  rfl
theorem PlM.miss {w : World} {o : Nat → Nat} {i b m : Nat} {f : Nat → Option Nat} (h : PlM w o i b m f) {x : Nat} (hx : x < top64) (hf : f x = none) :
    ∃ a : Int, (Instr.lookup 81 (.map (some b)) (sv x) true).run Tryd.prog w = .ok (.tuple #[.int .i64 a, .bool false]) w := by
  obtain ⟨D, h1, h2, h3, h4⟩ := h
  obtain ⟨c, ps, hr, hc⟩ := h1.look_ok setLaw Tryd.underlying81 (zeroInt9 w) (plainElem_int Tryd.underlying3 (by decide)) (keyS_of x hx)
  obtain ⟨a, rfl, ha, _⟩ := plainElem_int_inv Tryd.underlying3 hc
  rw [(h4 x hx).1, hf] at hr
  exact ⟨a, hr⟩
theorem PlM.put {w : World} {o : Nat → Nat} {i b m : Nat} {f : Nat → Option Nat} (h : PlM w o i b m f) {x : Nat} (hx : x < top64) (k : Nat) (hk : k ≤ 100000) (hf : f x = none) (hm : m ≤ 100000) :
    ∃ w', (Instr.mapUpdate 81 (.map (some b)) (sv x) (.int .i64 (k : Nat))).run Tryd.prog w = .ok () w' ∧ PlM w' o i b (m + 1) (updK f x k) ∧ Step (fun x => x = i) w o w' o := by
  obtain ⟨D, h1, h2, h3, h4⟩ := h
  obtain ⟨w', hr, ho, ht⟩ := h1.store setLaw Tryd.underlying81 (by unfold maxLen; omega) (keyS_of x hx) (plainElem_int Tryd.underlying3 (WalkArith.wf_i64 (by omega) : (Lit.int .i64 (k : Nat)).wf = true))
  have hsz : Maps.size (D.put (keyS x) (.lit (.int .i64 (k : Nat)))) = m + 1 := by rw [size_put (h1.tidy setLaw), (h4 x hx).1, hf]; simp [h2]
  refine ⟨w', hr, ⟨_, ho, hsz, h3, fun y hy => ?_⟩, turned_step ht h3⟩
  unfold updK
  by_cases e : y = x
  · subst e
    rw [if_pos rfl, has_put_same h1.isMap (keyS_key _), atKey_put_same h1.isMap (keyS_key _)]
    exact ⟨rfl, fun k' hk' => by cases hk'; rfl⟩
  · have hne : keyS y ≠ keyS x := fun h => e (keyS_inj hy hx h)
    rw [if_neg e, has_put_other hne, atKey_put_other hne]
    exact h4 y hy

/-- The groups of names so far: each set with its names, in the order in which they came. -/
abbrev Grp : Type := List (Nat × List ByteArray)
/-- A name more in the group at place i. -/
def putG (G : Grp) (i : Nat) (s : ByteArray) : Grp := match G[i]? with
  | some (x, l) => G.set i (x, l ++ [s])
  | none => G
/-- What the groups of the names l are: by sets, in the order of first names. -/
structure GrpOf (F : ByteArray → Option Nat) (l : List ByteArray) (G : Grp) : Prop where
  sets : ∀ i (h : i < G.length), ∀ s, s ∈ (G[i]).2 ↔ s ∈ l ∧ F s = some (G[i]).1
  full : ∀ i (h : i < G.length), (G[i]).2 ≠ []
  apart : ∀ i j (hi : i < G.length) (hj : j < G.length), (G[i]).1 = (G[j]).1 → i = j
  all : ∀ s x, s ∈ l → F s = some x → ∃ i, ∃ h : i < G.length, (G[i]).1 = x
  sub : ∀ i (h : i < G.length), (G[i]).2.Sublist l
  heads : ∀ i j (hi : i < G.length) (hj : j < G.length), i < j → ∃ a b A B C, (G[i]).2.head? = some a ∧ (G[j]).2.head? = some b ∧ l = A ++ a :: (B ++ b :: C)
theorem GrpOf.nil (F : ByteArray → Option Nat) : GrpOf F [] [] :=
  ⟨fun i h => by simp at h, fun i h => by simp at h, fun i j hi => by simp at hi, fun s x hs => by simp at hs, fun i h => by simp at h, fun i j hi => by simp at hi⟩
/-- Places tell where each set's group is. -/
def PlOf (f : Nat → Option Nat) (G : Grp) : Prop := (∀ i (h : i < G.length), f (G[i]).1 = some i) ∧ ∀ x i, f x = some i → ∃ h : i < G.length, (G[i]).1 = x
theorem putG_len (G : Grp) (i : Nat) (s : ByteArray) : (putG G i s).length = G.length := by
  unfold putG; split <;> simp
theorem putG_at (G : Grp) (i : Nat) (s : ByteArray) (hi : i < G.length) : putG G i s = G.set i ((G[i]).1, (G[i]).2 ++ [s]) := by
  unfold putG; rw [List.getElem?_eq_getElem hi]
theorem putG_same (G : Grp) (i : Nat) (s : ByteArray) (hi : i < G.length) (h : i < (putG G i s).length) : (putG G i s)[i] = ((G[i]).1, (G[i]).2 ++ [s]) := by
  simp only [putG_at G i s hi, List.getElem_set_self]
theorem putG_other (G : Grp) (i j : Nat) (s : ByteArray) (hi : i < G.length) (h : j < (putG G i s).length) (hj : j < G.length) (e : i ≠ j) : (putG G i s)[j] = G[j] := by
  simp only [putG_at G i s hi, List.getElem_set_ne e]
theorem PlOf.put {f : Nat → Option Nat} {G : Grp} (h : PlOf f G) (i : Nat) (s : ByteArray) (hi : i < G.length) : PlOf f (putG G i s) := by
  have key : ∀ j (hj : j < (putG G i s).length) (hj' : j < G.length), ((putG G i s)[j]).1 = (G[j]).1 := fun j hj hj' => by
    by_cases e : i = j
    · subst e; rw [putG_same G i s hi]
    · rw [putG_other G i j s hi hj hj' e]
  refine ⟨fun j hj => ?_, fun x j hx => ?_⟩
  · have hj' : j < G.length := by rw [putG_len] at hj; exact hj
    rw [key j hj hj']; exact h.1 j hj'
  · obtain ⟨hj, e⟩ := h.2 x j hx
    exact ⟨by rw [putG_len]; exact hj, by rw [key j (by rw [putG_len]; exact hj) hj]; exact e⟩
theorem PlOf.new {f : Nat → Option Nat} {G : Grp} (h : PlOf f G) (x : Nat) (l : List ByteArray) (hx : f x = none) : PlOf (updK f x G.length) (G ++ [(x, l)]) := by
  refine ⟨fun j hj => ?_, fun y j hy => ?_⟩
  · unfold updK
    by_cases e : j < G.length
    · rw [List.getElem_append_left e, if_neg (fun q => by have := h.1 j e; rw [q, hx] at this; cases this)]
      exact h.1 j e
    · have ej : j = G.length := by simp at hj; omega
      subst ej
      simp
  · unfold updK at hy
    split at hy
    · rename_i e
      cases hy
      exact ⟨by simp, by simp [e]⟩
    · obtain ⟨hj, e⟩ := h.2 y j hy
      exact ⟨by simp; omega, by rw [List.getElem_append_left hj]; exact e⟩
end Go.Proofs.YtmpkhbblakfglaaDoor
namespace Go.Proofs.YtmpkhbblakfglaaDoor
open Go.ChangeShapes Go.WideShapes Go.ChangeAt Go.RowKit Go.Maps
set_option linter.unusedVariables false

theorem head_app {a : ByteArray} {l : List ByteArray} (h : l.head? = some a) (s : ByteArray) : (l ++ [s]).head? = some a := by
  cases l with
  | nil => cases h
  | cons b l => exact h
theorem GrpOf.put {F : ByteArray → Option Nat} {l : List ByteArray} {G : Grp} (h : GrpOf F l G) {i : Nat} (hi : i < G.length) {s : ByteArray} (hs : F s = some (G[i]).1) : GrpOf F (l ++ [s]) (putG G i s) := by
  have hl : ∀ {j}, j < (putG G i s).length → j < G.length := fun {j} hj => by rw [putG_len] at hj; exact hj
  have key : ∀ j (hj : j < (putG G i s).length), ((putG G i s)[j]).1 = (G[j]'(hl hj)).1 := fun j hj => by
    by_cases e : i = j
    · subst e; rw [putG_same G i s hi]
    · rw [putG_other G i j s hi hj (hl hj) e]
  refine ⟨fun j hj t => ?_, fun j hj => ?_, fun j k hj hk e => ?_, fun t x ht hx => ?_, fun j hj => ?_, fun j k hj hk hjk => ?_⟩
  · rw [key j hj]
    by_cases e : i = j
    · subst e
      rw [putG_same G i s hi, List.mem_append, List.mem_append, h.sets i hi t, List.mem_singleton]
      constructor
      · rintro (⟨h1, h2⟩ | rfl)
        · exact ⟨.inl h1, h2⟩
        · exact ⟨.inr rfl, hs⟩
      · rintro ⟨h1 | h1, h2⟩
        · exact .inl ⟨h1, h2⟩
        · exact .inr h1
    · rw [putG_other G i j s hi hj (hl hj) e, h.sets j (hl hj) t, List.mem_append, List.mem_singleton]
      constructor
      · rintro ⟨h1, h2⟩; exact ⟨.inl h1, h2⟩
      · rintro ⟨h1 | h1, h2⟩
        · exact ⟨h1, h2⟩
        · rw [h1, hs] at h2
          exact absurd (h.apart i j hi (hl hj) (Option.some.inj h2)) e
  · by_cases e : i = j
    · subst e; rw [putG_same G i s hi]; simp
    · rw [putG_other G i j s hi hj (hl hj) e]; exact h.full j (hl hj)
  · rw [key j hj, key k hk] at e
    exact h.apart j k (hl hj) (hl hk) e
  · rcases List.mem_append.1 ht with h1 | h1
    · obtain ⟨j, hj, e⟩ := h.all t x h1 hx
      exact ⟨j, by rw [putG_len]; exact hj, by rw [key j (by rw [putG_len]; exact hj)]; exact e⟩
    · rw [List.mem_singleton] at h1
      rw [h1, hs] at hx
      exact ⟨i, by rw [putG_len]; exact hi, by rw [key i (by rw [putG_len]; exact hi)]; exact Option.some.inj hx⟩
  · by_cases e : i = j
    · subst e; rw [putG_same G i s hi]; exact (h.sub i hi).append (List.Sublist.refl _)
    · rw [putG_other G i j s hi hj (hl hj) e]; exact (h.sub j (hl hj)).trans (List.sublist_append_left _ _)
  · obtain ⟨a, b, A, B, C, h1, h2, h3⟩ := h.heads j k (hl hj) (hl hk) hjk
    have hh : ∀ q (hq : q < (putG G i s).length) c, (G[q]'(hl hq)).2.head? = some c → ((putG G i s)[q]).2.head? = some c := fun q hq c hc => by
      by_cases e : i = q
      · subst e; rw [putG_same G i s hi]; exact head_app hc s
      · rw [putG_other G i q s hi hq (hl hq) e]; exact hc
    exact ⟨a, b, A, B, C ++ [s], hh j hj a h1, hh k hk b h2, by rw [h3]; simp⟩
theorem GrpOf.new {F : ByteArray → Option Nat} {l : List ByteArray} {G : Grp} (h : GrpOf F l G) {s : ByteArray} {x : Nat} (hs : F s = some x) (hn : ∀ i (h : i < G.length), (G[i]).1 ≠ x) : GrpOf F (l ++ [s]) (G ++ [(x, [s])]) := by
  have old : ∀ j (hj : j < (G ++ [(x, [s])]).length) (hj' : j < G.length), (G ++ [(x, [s])])[j] = G[j] := fun j hj hj' => List.getElem_append_left hj'
  have new : ∀ j (hj : j < (G ++ [(x, [s])]).length), ¬ j < G.length → (G ++ [(x, [s])])[j] = (x, [s]) ∧ j = G.length := fun j hj hj' => by
    have e : j = G.length := by simp at hj; omega
    subst e
    exact ⟨by simp, rfl⟩
  have keyn : ∀ t, t ∈ l → F t ≠ some x := fun t ht he => by
    obtain ⟨i, hi, e⟩ := h.all t x ht he
    exact hn i hi e
  refine ⟨fun j hj t => ?_, fun j hj => ?_, fun j k hj hk e => ?_, fun t y ht hy => ?_, fun j hj => ?_, fun j k hj hk hjk => ?_⟩
  · by_cases hj' : j < G.length
    · rw [old j hj hj', h.sets j hj' t, List.mem_append, List.mem_singleton]
      constructor
      · rintro ⟨h1, h2⟩; exact ⟨.inl h1, h2⟩
      · rintro ⟨h1 | h1, h2⟩
        · exact ⟨h1, h2⟩
        · rw [h1, hs] at h2
          exact absurd (Option.some.inj h2).symm (hn j hj')
    · rw [(new j hj hj').1, List.mem_append]
      simp only [List.mem_singleton]
      constructor
      · rintro rfl; exact ⟨.inr rfl, hs⟩
      · rintro ⟨h1 | h1, h2⟩
        · exact absurd h2 (keyn t h1)
        · exact h1
  · by_cases hj' : j < G.length
    · rw [old j hj hj']; exact h.full j hj'
    · rw [(new j hj hj').1]; simp
  · by_cases hj' : j < G.length
    · by_cases hk' : k < G.length
      · rw [old j hj hj', old k hk hk'] at e; exact h.apart j k hj' hk' e
      · rw [old j hj hj', (new k hk hk').1] at e; exact absurd e (hn j hj')
    · by_cases hk' : k < G.length
      · rw [(new j hj hj').1, old k hk hk'] at e; exact absurd e.symm (hn k hk')
      · rw [(new j hj hj').2, (new k hk hk').2]
  · rcases List.mem_append.1 ht with h1 | h1
    · obtain ⟨i, hi, e⟩ := h.all t y h1 hy
      exact ⟨i, by simp; omega, by rw [old i (by simp; omega) hi]; exact e⟩
    · rw [List.mem_singleton] at h1
      rw [h1, hs] at hy
      exact ⟨G.length, by simp, by simp; exact Option.some.inj hy⟩
  · by_cases hj' : j < G.length
    · rw [old j hj hj']; exact (h.sub j hj').trans (List.sublist_append_left _ _)
    · rw [(new j hj hj').1]; exact List.sublist_append_right _ _
  · by_cases hk' : k < G.length
    · obtain ⟨a, b, A, B, C, h1, h2, h3⟩ := h.heads j k (by omega) hk' hjk
      exact ⟨a, b, A, B, C ++ [s], by rw [old j hj (by omega)]; exact h1, by rw [old k hk hk']; exact h2, by rw [h3]; simp⟩
    · have hj' : j < G.length := by have := (new k hk hk').2; omega
      cases hg : (G[j]).2 with
      | nil => exact absurd hg (h.full j hj')
      | cons a t =>
        have hm : a ∈ l := ((h.sets j hj' a).1 (by rw [hg]; simp)).1
        obtain ⟨A, B, e⟩ := List.append_of_mem hm
        exact ⟨a, s, A, B, [], by rw [old j hj hj', hg]; rfl, by rw [(new k hk hk').1]; rfl, by rw [e]; simp⟩
theorem putG_new (G : Grp) (x : Nat) (s : ByteArray) : putG (G ++ [(x, [])]) G.length s = G ++ [(x, [s])] := by
  rw [putG_at _ _ _ (by simp)]
  simp
end Go.Proofs.YtmpkhbblakfglaaDoor
