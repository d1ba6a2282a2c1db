/- A sequence that is cut at some places: its pieces; cut at one more; joined again. No program. -/
import Derived.Test.YtijgilkpmkgbjaaOneSeq
namespace Go.Proofs.Ytijgilkpmkgbjaa
open Go.ChangeShapes Go.WideShapes Go.ChangeAt Go.RowKit
set_option linter.unusedVariables false

/-- What stands from one place to another one. -/
def seg (xs : List Nat) (lo hi : Nat) : List Nat := (xs.take hi).drop lo
theorem seg_len {xs : List Nat} {lo hi : Nat} (h : hi ≤ xs.length) : (seg xs lo hi).length = hi - lo := by simp [seg]; omega
theorem seg_get {xs : List Nat} {lo hi i : Nat} (h : hi ≤ xs.length) (hi2 : i < hi - lo) : (seg xs lo hi)[i]'(by rw [seg_len h]; exact hi2) = xs[lo + i]'(by omega) := by simp [seg]
theorem seg_cut {xs : List Nat} {lo k hi : Nat} (h1 : lo ≤ k) (h2 : k < hi) (h3 : hi ≤ xs.length) : seg xs lo hi = seg xs lo k ++ xs[k]'(by omega) :: seg xs (k + 1) hi := by
  apply List.ext_getElem
  · rw [List.length_append, List.length_cons, seg_len h3, seg_len (by omega), seg_len h3]; omega
  · intro i q1 q2
    rw [seg_len h3] at q1
    rw [seg_get h3 q1]
    by_cases e : i < k - lo
    · rw [List.getElem_append_left (by rw [seg_len (by omega)]; exact e), seg_get (by omega) e]
    · rw [List.getElem_append_right (by rw [seg_len (by omega)]; omega)]
      by_cases e2 : i = k - lo
      · subst e2
        have : k - lo - (seg xs lo k).length = 0 := by rw [seg_len (by omega)]; omega
        simp only [this, List.getElem_cons_zero]
        congr 1; omega
      · obtain ⟨m, hm⟩ : ∃ m, i - (seg xs lo k).length = m + 1 := ⟨i - (k - lo) - 1, by rw [seg_len (by omega)]; omega⟩
        simp only [hm, List.getElem_cons_succ]
        rw [seg_len (by omega)] at hm
        rw [seg_get h3 (by omega)]
        congr 1; omega
theorem seg_cons {xs : List Nat} {k hi : Nat} (h2 : k < hi) (h3 : hi ≤ xs.length) : seg xs k hi = xs[k]'(by omega) :: seg xs (k + 1) hi := by
  have := seg_cut (xs := xs) (lo := k) (Nat.le_refl k) h2 h3
  rw [this]
  have e : seg xs k k = [] := List.eq_nil_of_length_eq_zero (by rw [seg_len (by omega)]; omega)
  rw [e, List.nil_append]
theorem seg_join {xs : List Nat} {lo k hi : Nat} (h1 : lo ≤ k) (h2 : k < hi) (h3 : hi ≤ xs.length) : seg xs lo k ++ seg xs k hi = seg xs lo hi := by rw [seg_cut h1 h2 h3, seg_cons h2 h3]
theorem seg_all (xs : List Nat) : seg xs 0 xs.length = xs := by simp [seg]
theorem mem_seg {xs : List Nat} {lo hi x : Nat} (h : hi ≤ xs.length) : x ∈ seg xs lo hi ↔ ∃ j, ∃ (hj : j < xs.length), lo ≤ j ∧ j < hi ∧ xs[j] = x := by
  constructor
  · intro hm
    obtain ⟨i, hi2, e⟩ := List.mem_iff_getElem.1 hm
    rw [seg_len h] at hi2
    rw [seg_get h hi2] at e
    exact ⟨lo + i, by omega, by omega, by omega, e⟩
  · rintro ⟨j, hj, h1, h2, rfl⟩
    refine List.mem_iff_getElem.2 ⟨j - lo, by rw [seg_len h]; omega, ?_⟩
    rw [seg_get h (by omega)]
    congr 1; omega
/-- Places next to one another. -/
structure Gap (n : Nat) (P : Nat → Prop) (lo hi : Nat) : Prop where
  lt : lo < hi
  le : hi ≤ n
  low : P lo
  high : hi = n ∨ P hi
  none : ∀ m, lo < m → m < hi → ¬ P m
theorem Gap.of {n : Nat} {P : Nat → Prop} (h0 : P 0) {k : Nat} (hk : k < n) : ∃ lo hi, Gap n P lo hi ∧ lo ≤ k ∧ k < hi := by
  have h1 : ∀ k, ∃ lo, lo ≤ k ∧ P lo ∧ ∀ m, lo < m → m ≤ k → ¬ P m := by
    intro k
    induction k with
    | zero => exact ⟨0, by omega, h0, fun m _ _ => by omega⟩
    | succ k ih =>
      by_cases h : P (k + 1)
      · exact ⟨k + 1, by omega, h, fun m _ _ => by omega⟩
      · obtain ⟨lo, a, b, c⟩ := ih
        exact ⟨lo, by omega, b, fun m x y => by
          by_cases e : m = k + 1
          · subst e; exact h
          · exact c m x (by omega)⟩
  have h2 : ∀ d k, k + d + 1 = n → ∃ hi, k < hi ∧ hi ≤ n ∧ (hi = n ∨ P hi) ∧ ∀ m, k < m → m < hi → ¬ P m := by
    intro d
    induction d with
    | zero => intro k e; exact ⟨n, by omega, by omega, .inl rfl, fun m _ _ => by omega⟩
    | succ d ih =>
      intro k e
      by_cases h : P (k + 1)
      · exact ⟨k + 1, by omega, by omega, .inr h, fun m _ _ => by omega⟩
      · obtain ⟨hi, a, b, c, f⟩ := ih (k + 1) (by omega)
        exact ⟨hi, by omega, b, c, fun m x y => by
          by_cases e : m = k + 1
          · subst e; exact h
          · exact f m (by omega) y⟩
  obtain ⟨lo, a, b, c⟩ := h1 k
  obtain ⟨hi, d, e, f, g⟩ := h2 (n - k - 1) k (by omega)
  exact ⟨lo, hi, ⟨by omega, e, b, f, fun m x y => by
    by_cases h : m ≤ k
    · exact c m x h
    · exact g m (by omega) y⟩, a, d⟩
theorem Gap.one {n : Nat} {P : Nat → Prop} {lo hi lo' hi' j : Nat} (g : Gap n P lo hi) (g' : Gap n P lo' hi') (h1 : lo ≤ j) (h2 : j < hi) (h3 : lo' ≤ j) (h4 : j < hi') : lo = lo' ∧ hi = hi' := by
  have e1 : lo = lo' := by
    by_cases a : lo < lo'
    · exact absurd g'.low (g.none lo' a (by omega))
    · by_cases b : lo' < lo
      · exact absurd g.low (g'.none lo b (by omega))
      · omega
  refine ⟨e1, ?_⟩
  by_cases a : hi < hi'
  · rcases g.high with e | e
    · have := g'.le; omega
    · exact absurd e (g'.none hi (by omega) a)
  · by_cases b : hi' < hi
    · rcases g'.high with e | e
      · have := g.le; omega
      · exact absurd e (g.none hi' (by omega) b)
    · omega
/-- Cut at the places P. -/
def Pcs (S : Nat → List Nat) (xs : List Nat) (P : Nat → Prop) : Prop := ∀ lo hi, Gap xs.length P lo hi → ∀ j (hj : j < xs.length), lo ≤ j → j < hi → S xs[j] = seg xs lo hi
theorem Pcs.start {n : Nat} {S : Nat → List Nat} {xs : List Nat} (O : One n S xs) : Pcs S xs (fun m => m = 0) := by
  intro lo hi g j hj h1 h2
  rw [O.seq _ (List.getElem_mem hj)]
  have e1 := g.low
  have e2 : hi = xs.length := by rcases g.high with e | e; exact e; have := g.lt; have e : hi = 0 := e; omega
  rw [e1, e2, seg_all]
theorem Pcs.whole {S : Nat → List Nat} {xs : List Nat} (h : Pcs S xs (fun m => m = 0)) : ∀ x ∈ xs, S x = xs := by
  intro x hx
  obtain ⟨j, hj, rfl⟩ := List.mem_iff_getElem.1 hx
  rw [h 0 xs.length ⟨by omega, by omega, rfl, .inl rfl, fun m a _ e => by have e : m = 0 := e; omega⟩ j hj (by omega) hj, seg_all]
theorem Pcs.congr {S : Nat → List Nat} {xs : List Nat} {P Q : Nat → Prop} (h : Pcs S xs P) (e : ∀ m, m < xs.length → (P m ↔ Q m)) : Pcs S xs Q := by
  intro lo hi g j hj h1 h2
  refine h lo hi ⟨g.lt, g.le, (e lo (by have := g.lt; have := g.le; omega)).2 g.low, ?_, fun m a b => fun p => g.none m a b ((e m (by have := g.le; omega)).1 p)⟩ j hj h1 h2
  rcases g.high with x | x
  · exact .inl x
  · by_cases y : hi = xs.length
    · exact .inl y
    · exact .inr ((e hi (by have := g.le; omega)).2 x)
/-- A cut where there is one. -/
theorem Pcs.split {S : Nat → List Nat} {xs : List Nat} {P : Nat → Prop} (h : Pcs S xs P) (hn : xs.Nodup) (h0 : P 0) {k : Nat} (hk : k < xs.length) :
    ∃ A B, S xs[k] = A ++ xs[k] :: B ∧ Pcs (splitS S A xs[k] B) xs (fun m => P m ∨ m = k) := by
  obtain ⟨lo, hi, g, h1, h2⟩ := Gap.of h0 hk
  have inj : ∀ i j (hi : i < xs.length) (hj : j < xs.length), xs[i] = xs[j] → i = j := fun i j hi hj e => (List.getElem_inj hn).1 e
  have hS := h lo hi g k hk h1 h2
  have hle := g.le
  refine ⟨seg xs lo k, seg xs (k + 1) hi, by rw [hS]; exact seg_cut h1 h2 hle, ?_⟩
  have eB : xs[k] :: seg xs (k + 1) hi = seg xs k hi := (seg_cons h2 hle).symm
  intro lo' hi' g' j hj j1 j2
  unfold splitS
  rw [eB]
  have inA : xs[j] ∈ seg xs lo k ↔ lo ≤ j ∧ j < k := by
    rw [mem_seg (by omega)]
    constructor
    · rintro ⟨i, hi3, a, b, e⟩; rw [← inj _ _ _ _ e]; exact ⟨a, b⟩
    · rintro ⟨a, b⟩; exact ⟨j, hj, a, b, rfl⟩
  have inB : xs[j] ∈ seg xs k hi ↔ k ≤ j ∧ j < hi := by
    rw [mem_seg hle]
    constructor
    · rintro ⟨i, hi3, a, b, e⟩; rw [← inj _ _ _ _ e]; exact ⟨a, b⟩
    · rintro ⟨a, b⟩; exact ⟨j, hj, a, b, rfl⟩
  have gl := g'.lt
  have gle := g'.le
  -- the gaps of the new places
  have gapB : Gap xs.length (fun m => P m ∨ m = k) k hi := ⟨h2, hle, .inr rfl, g.high.imp id .inl, fun m a b c => c.elim (g.none m (by omega) b) (by omega)⟩
  by_cases cA : lo ≤ j ∧ j < k
  · rw [if_pos (inA.2 cA)]
    have gapA : Gap xs.length (fun m => P m ∨ m = k) lo k := ⟨by omega, by omega, .inl g.low, .inr (.inr rfl), fun m a b c => c.elim (g.none m a (by omega)) (by omega)⟩
    obtain ⟨e1, e2⟩ := g'.one gapA j1 j2 cA.1 cA.2
    rw [e1, e2]
  · rw [if_neg (fun x => cA (inA.1 x))]
    by_cases cB : k ≤ j ∧ j < hi
    · rw [if_pos (inB.2 cB)]
      obtain ⟨e1, e2⟩ := g'.one gapB j1 j2 cB.1 cB.2
      rw [e1, e2]
    · rw [if_neg (fun x => cB (inB.1 x))]
      have nk2 : lo' ≠ k := fun e => by
        subst e
        obtain ⟨_, e2⟩ := g'.one gapB (Nat.le_refl _) gl (Nat.le_refl _) h2
        omega
      have hh : hi' = xs.length ∨ P hi' := by
        rcases g'.high with x | x | x
        · exact .inl x
        · exact .inr x
        · by_cases e2 : lo = k
          · exact .inr (by rw [x, ← e2]; exact g.low)
          · have gapA : Gap xs.length (fun m => P m ∨ m = k) lo k := ⟨by omega, by omega, .inl g.low, .inr (.inr rfl), fun m a b c => c.elim (g.none m a (by omega)) (by omega)⟩
            obtain ⟨e1, _⟩ := g'.one gapA (j := k - 1) (by omega) (by omega) (by omega) (by omega)
            omega
      refine h lo' hi' ⟨gl, gle, g'.low.resolve_right nk2, hh, fun m a b p => g'.none m a b (.inl p)⟩ j hj j1 j2

/-- The first piece joined with the next one. -/
theorem Pcs.join {S : Nat → List Nat} {xs : List Nat} {P : Nat → Prop} (h : Pcs S xs P) (hn : xs.Nodup) (h0 : P 0) {k : Nat} (hk : k < xs.length) (hp : P k) (h1 : 0 < k) (hno : ∀ m, 0 < m → m < k → ¬ P m) :
    S (xs[0]'(by omega)) ≠ S xs[k] ∧ Pcs (joinS S (xs[0]'(by omega)) xs[k]) xs (fun m => P m ∧ m ≠ k) := by
  have inj : ∀ i j (hi : i < xs.length) (hj : j < xs.length), xs[i] = xs[j] → i = j := fun i j hi hj e => (List.getElem_inj hn).1 e
  have g1 : Gap xs.length P 0 k := ⟨h1, by omega, h0, .inr hp, hno⟩
  obtain ⟨lo, hi, g2, a1, a2⟩ := Gap.of h0 hk
  obtain rfl : lo = k := by
    by_cases e : lo < k
    · exact absurd hp (g2.none k e a2)
    · omega
  have e1 := h 0 lo g1 0 (by omega) (Nat.le_refl _) h1
  have e2 := h lo hi g2 lo hk (Nat.le_refl _) a2
  have hle := g2.le
  have ej : seg xs 0 lo ++ seg xs lo hi = seg xs 0 hi := seg_join (by omega) a2 hle
  have mem0 : ∀ j (hj : j < xs.length) (a b : Nat), b ≤ xs.length → (xs[j] ∈ seg xs a b ↔ a ≤ j ∧ j < b) := fun j hj a b hb => by
    rw [mem_seg hb]
    constructor
    · rintro ⟨i, hi3, x, y, e⟩; rw [← inj _ _ _ _ e]; exact ⟨x, y⟩
    · rintro ⟨x, y⟩; exact ⟨j, hj, x, y, rfl⟩
  constructor
  · rw [e1, e2]
    intro e
    have : xs[lo] ∈ seg xs 0 lo := by rw [e, mem0 lo hk lo hi hle]; omega
    rw [mem0 lo hk 0 lo (by omega)] at this
    omega
  · intro lo' hi' g' j hj j1 j2
    unfold joinS
    rw [e1, e2, ej]
    have hin : (xs[j] ∈ seg xs 0 lo ∨ xs[j] ∈ seg xs lo hi) ↔ j < hi := by
      rw [mem0 j hj 0 lo (by omega), mem0 j hj lo hi hle]; omega
    have gn : Gap xs.length (fun m => P m ∧ m ≠ lo) 0 hi := ⟨by omega, hle, ⟨h0, by omega⟩, g2.high.imp id (fun x => ⟨x, by omega⟩), fun m x y z => by
      by_cases e : m < lo
      · exact hno m x e z.1
      · exact g2.none m (by have := z.2; omega) y z.1⟩
    by_cases c : j < hi
    · rw [if_pos (hin.2 c)]
      obtain ⟨q1, q2⟩ := g'.one gn j1 j2 (by omega) c
      rw [q1, q2]
    · rw [if_neg (fun x => c (hin.1 x))]
      have hlo : hi ≤ lo' := by
        by_cases e : lo' < hi
        · obtain ⟨q1, q2⟩ := g'.one gn (j := lo') (Nat.le_refl _) g'.lt (by omega) e
          omega
        · omega
      exact h lo' hi' ⟨g'.lt, g'.le, g'.low.1, g'.high.imp id (fun x => x.1), fun m x y z => g'.none m x y ⟨z, by omega⟩⟩ j hj j1 j2

/-- Rising numbers. -/
def Rising (fs : List Nat) : Prop := fs.Pairwise (· < ·)
/-- One more, each once. -/
def ins : List Nat → Nat → List Nat
  | [], k => [k]
  | a :: l, k => if a < k then a :: ins l k else if a = k then a :: l else k :: a :: l
theorem ins_append {A B : List Nat} {k : Nat} (h : ∀ a ∈ A, a < k) : ins (A ++ B) k = A ++ ins B k := by
  induction A with
  | nil => rfl
  | cons a A ih =>
    show ins (a :: (A ++ B)) k = a :: (A ++ ins B k)
    rw [ins, if_pos (h a (by simp)), ih (fun x hx => h x (by simp [hx]))]
theorem mem_ins {fs : List Nat} {k m : Nat} : m ∈ ins fs k ↔ m ∈ fs ∨ m = k := by
  induction fs with
  | nil => simp [ins]
  | cons a l ih =>
    unfold ins
    by_cases h1 : a < k
    · rw [if_pos h1, List.mem_cons, ih, List.mem_cons, or_assoc]
    · rw [if_neg h1]
      by_cases h2 : a = k
      · rw [if_pos h2, List.mem_cons]
        constructor
        · exact .inl
        · rintro (h | h)
          · exact h
          · exact .inl (by rw [h, h2])
      · rw [if_neg h2, List.mem_cons, List.mem_cons]
        constructor
        · rintro (h | h)
          · exact .inr h
          · exact .inl h
        · rintro (h | h)
          · exact .inr h
          · exact .inl h
theorem ins_rising {fs : List Nat} {k : Nat} (h : Rising fs) : Rising (ins fs k) := by
  induction fs with
  | nil => simp [ins, Rising]
  | cons a l ih =>
    unfold Rising at h ih ⊢
    rw [List.pairwise_cons] at h
    unfold ins
    by_cases h1 : a < k
    · rw [if_pos h1, List.pairwise_cons]
      refine ⟨fun x hx => ?_, ih h.2⟩
      rcases mem_ins.1 hx with hx | hx
      · exact h.1 x hx
      · omega
    · rw [if_neg h1]
      by_cases h2 : a = k
      · rw [if_pos h2, List.pairwise_cons]; exact h
      · rw [if_neg h2, List.pairwise_cons, List.pairwise_cons]
        refine ⟨fun x hx => ?_, h⟩
        rcases List.mem_cons.1 hx with rfl | hx
        · omega
        · have := h.1 x hx; omega
theorem ins_len {fs : List Nat} {k : Nat} : (ins fs k).length ≤ fs.length + 1 := by
  induction fs with
  | nil => simp [ins]
  | cons a l ih =>
    unfold ins
    by_cases h1 : a < k
    · rw [if_pos h1]; simp; omega
    · rw [if_neg h1]
      by_cases h2 : a = k
      · rw [if_pos h2]; simp
      · rw [if_neg h2]; simp
theorem ins_head {l : List Nat} {k : Nat} : ∃ l', ins (0 :: l) k = 0 :: l' := by
  unfold ins
  by_cases h : 0 < k
  · exact ⟨_, if_pos h⟩
  · exact ⟨l, by rw [if_neg h, if_pos (by omega)]⟩

end Go.Proofs.Ytijgilkpmkgbjaa
