/- VsetFamilies: the steps of Kind 1, 2, 5. -/
import Derived.Test.YtmpkhbblakfglaaDoorFStepG9
import Derived.Test.YtmpkhbblakfglaaDoorFAddW9
import Derived.Test.YtmpkhbblakfglaaDoorFDrop9
import Derived.Test.YtmpkhbblakfglaaDoorFPurge9
import Derived.Test.YtmpkhbblakfglaaDoorFCan9
import Derived.Test.YtmpkhbblakfglaaDoorDropC
import Derived.Test.YtmpkhbblakfglaaDoorPurgeC
namespace Go.Proofs.YtmpkhbblakfglaaDoor
open Go.ChangeShapes Go.WideShapes Go.ChangeAt Go.RowKit Go.Maps
set_option linter.unusedVariables false
set_option linter.unusedSimpArgs false

/-- Names, sets and the two families fit together. -/
structure FN (F : ByteArray → Option Nat) (m : Nat) (NL : List ByteArray) (xs : List Nat) : Prop where
  le : m ≤ 16
  nm : NamesOf F NL
  ln : NL.length = m
  lx : xs.length = m
  ev : ∀ i, i < m → F (NL.getD i ⟨#[]⟩) = some (xs.getD i 0)
  ok : ∀ s x, F s = some x → x < top64 ∧ s.size ≤ maxLen
/-- A side: the program's family F, the document's names NL and sets xs, the lists ls that are kept. -/
def SQ (B ps pf px N : Nat) (ls : List (List ByteArray)) (F : ByteArray → Option Nat) (m : Nat) (NL : List ByteArray) (xs : List Nat) (m2 : Nat) (w : World) (o : Nat → Nat) : Prop :=
  ∃ va vw als wls, KP w o B ps (.pointer (some ⟨pf, 0, none⟩)) (.pointer (some ⟨px, 0, none⟩)) N ls va vw als wls ∧ Fam w o (B + 1000) pf m F ∧ RX w o (B + 1) px m2 NL xs ∧ TzL w o ∧ WdL w o
theorem SQ.step {B ps pf px N : Nat} {ls : List (List ByteArray)} {F : ByteArray → Option Nat} {m : Nat} {NL : List ByteArray} {xs : List Nat} {m2 : Nat} {I : Nat → Prop} {w w' : World} {o o' : Nat → Nat} (h : SQ B ps pf px N ls F m NL xs m2 w o) (s : Step I w o w' o') (hi : ∀ k, SB B k → ¬ I k) (h0 : ¬ I 0) : SQ B ps pf px N ls F m NL xs m2 w' o' := by
  obtain ⟨va, vw, als, wls, hK, hF, hR, hT, hW⟩ := h
  have sb : ∀ j, j < 300000 → ¬ I (B + j) := fun j hj => hi _ (by unfold SB; omega)
  have hN := hK.lt.le
  rw [hK.ln] at hN
  refine ⟨va, vw, als, wls, hK.step s (sb 0 (by omega)) (sb 10 (by omega)) (sb 11 (by omega)) (fun i hi' => ⟨?_, ?_⟩), hF.step s (sb 1000 (by omega)) (sb 1001 (by omega)), hR.step s (fun k h1 h2 => ?_), hT.step s h0, hW.step s h0⟩
  · rw [Nat.add_assoc]; exact sb (500 + i) (by omega)
  · rw [Nat.add_assoc]; exact sb (600 + i) (by omega)
  · have := sb (k - B) (by omega)
    rwa [show B + (k - B) = k by omega] at this
theorem SQ.sta (B ps pf px N : Nat) (ls : List (List ByteArray)) (F : ByteArray → Option Nat) (m : Nat) (NL : List ByteArray) (xs : List Nat) (m2 : Nat) : Sta9 B ps pf px (SQ B ps pf px N ls F m NL xs m2) :=
  ⟨fun h s hi h0 => h.step s hi h0, fun ⟨_, _, _, _, hK, _⟩ => hK.blk.cells4.1, fun ⟨_, _, _, _, hK, _⟩ => hK.blk.cells4.2.1⟩
/-- The same, the document's names and sets whichever fit. -/
def SE (B ps pf px N : Nat) (ls : List (List ByteArray)) (F : ByteArray → Option Nat) (m : Nat) (w : World) (o : Nat → Nat) : Prop := ∃ NL xs, FN F m NL xs ∧ SQ B ps pf px N ls F m NL xs m w o
theorem SE.sta (B ps pf px N : Nat) (ls : List (List ByteArray)) (F : ByteArray → Option Nat) (m : Nat) : Sta9 B ps pf px (SE B ps pf px N ls F m) :=
  ⟨fun ⟨NL, xs, f, h⟩ s hi h0 => ⟨NL, xs, f, h.step s hi h0⟩, fun ⟨_, _, _, _, _, _, _, hK, _⟩ => hK.blk.cells4.1, fun ⟨_, _, _, _, _, _, _, hK, _⟩ => hK.blk.cells4.2.1⟩
/-- Only the program's family has turned. -/
theorem SQ.fam {B ps pf px N : Nat} {ls : List (List ByteArray)} {F : ByteArray → Option Nat} {m : Nat} {NL : List ByteArray} {xs : List Nat} {m2 : Nat} {w w' : World} {o o' : Nat → Nat} (h : SQ B ps pf px N ls F m NL xs m2 w o) {F' : ByteArray → Option Nat} {m' : Nat} (hF : Fam w' o' (B + 1000) pf m' F') (s : Step (fun k => B + 1000 ≤ k ∧ k < B + 300000) w o w' o') (hB : 0 < B) : SQ B ps pf px N ls F' m' NL xs m2 w' o' := by
  obtain ⟨va, vw, als, wls, hK, _, hR, hT, hW⟩ := h
  have hN := hK.lt.le
  rw [hK.ln] at hN
  exact ⟨va, vw, als, wls, hK.step s (by omega) (by omega) (by omega) (fun i hi => by omega), hF, hR.step s (by omega), hT.step s (by omega), hW.step s (by omega)⟩
/-- Only the document's family has turned. -/
theorem SQ.ref {B ps pf px N : Nat} {ls : List (List ByteArray)} {F : ByteArray → Option Nat} {m : Nat} {NL : List ByteArray} {xs : List Nat} {m2 : Nat} {w w' : World} {o o' : Nat → Nat} (h : SQ B ps pf px N ls F m NL xs m2 w o) {NL' : List ByteArray} {xs' : List Nat} {m' : Nat} (hR : RX w' o' (B + 1) px m' NL' xs') (s : Step (LL (B + 1)) w o w' o') (hB : 0 < B) : SQ B ps pf px N ls F m NL' xs' m' w' o' := by
  obtain ⟨va, vw, als, wls, hK, hF, _, hT, hW⟩ := h
  have hN := hK.lt.le
  rw [hK.ln] at hN
  exact ⟨va, vw, als, wls, hK.step s (by unfold LL; omega) (by unfold LL; omega) (by unfold LL; omega) (fun i hi => by unfold LL; omega), hF.step s (by unfold LL; omega) (by unfold LL; omega), hR, hT.step s (by unfold LL; omega), hW.step s (by unfold LL; omega)⟩
theorem FN.mem {F : ByteArray → Option Nat} {m : Nat} {NL : List ByteArray} {xs : List Nat} (h : FN F m NL xs) (s : ByteArray) : s ∈ NL ↔ (F s).isSome = true := h.nm.1 s
theorem FN.at {F : ByteArray → Option Nat} {m : Nat} {NL : List ByteArray} {xs : List Nat} (h : FN F m NL xs) {s : ByteArray} (hs : s ∈ NL) : ∃ k, k < m ∧ NL.getD k ⟨#[]⟩ = s ∧ F s = some (xs.getD k 0) := by
  obtain ⟨k, hk, e⟩ := List.getElem_of_mem hs
  have hl := h.ln
  have e2 : NL.getD k ⟨#[]⟩ = s := by rw [getD_lt NL k hk, e]
  exact ⟨k, by omega, e2, by rw [← e2]; exact h.ev k (by omega)⟩
theorem FN.inj {F : ByteArray → Option Nat} {m : Nat} {NL : List ByteArray} {xs : List Nat} (h : FN F m NL xs) {i k : Nat} (hi : i < m) (hk : k < m) (e : NL.getD i ⟨#[]⟩ = NL.getD k ⟨#[]⟩) : i = k := by
  have hl := h.ln
  rw [getD_lt NL i (by omega), getD_lt NL k (by omega)] at e
  exact (List.getElem_inj h.nm.nodup).1 e
theorem bls_total {s t : ByteArray} (h : ¬ bls s t) (hne : s ≠ t) : bls t s := by
  have h1 : t.data.toList ≤ s.data.toList := List.not_lt.1 h
  rcases List.le_iff_lt_or_eq.1 h1 with h | h
  · exact h
  · exact absurd (ByteArray.ext (Array.toList_inj.1 h)).symm hne
end Go.Proofs.YtmpkhbblakfglaaDoor
namespace Go.Proofs.YtmpkhbblakfglaaDoor
open Go.ChangeShapes Go.WideShapes Go.ChangeAt Go.RowKit Go.Maps
set_option linter.unusedVariables false
set_option linter.unusedSimpArgs false

theorem ins_getD {α : Type} (l : List α) (x d : α) (k i : Nat) (hk : k ≤ l.length) : (l.take k ++ [x] ++ l.drop k).getD i d = if i < k then l.getD i d else if i = k then x else l.getD (i - 1) d := by
  have hl : (l.take k).length = k := by simp; omega
  rw [List.getD_eq_getElem?_getD, List.append_assoc]
  by_cases h1 : i < k
  · rw [if_pos h1, List.getElem?_append_left (by omega), List.getElem?_take_of_lt h1, ← List.getD_eq_getElem?_getD]
  · rw [if_neg h1, List.getElem?_append_right (by omega), hl]
    by_cases h2 : i = k
    · subst h2; simp
    · rw [if_neg h2]
      have e : i - k = (i - 1 - k) + 1 := by omega
      rw [e]
      simp only [List.singleton_append, List.getElem?_cons_succ, List.getElem?_drop]
      rw [show k + (i - 1 - k) = i - 1 by omega, ← List.getD_eq_getElem?_getD]
theorem del_getD {α : Type} (l : List α) (d : α) (k i : Nat) (hk : k < l.length) : (l.take k ++ l.drop (k + 1)).getD i d = if i < k then l.getD i d else l.getD (i + 1) d := by
  have hl : (l.take k).length = k := by simp; omega
  rw [List.getD_eq_getElem?_getD]
  by_cases h1 : i < k
  · rw [if_pos h1, List.getElem?_append_left (by omega), List.getElem?_take_of_lt h1, ← List.getD_eq_getElem?_getD]
  · rw [if_neg h1, List.getElem?_append_right (by omega), hl, List.getElem?_drop, show k + 1 + (i - k) = i + 1 by omega, ← List.getD_eq_getElem?_getD]
theorem mem_getD {NL : List ByteArray} {t : ByteArray} (h : t ∈ NL) : ∃ j, j < NL.length ∧ NL.getD j ⟨#[]⟩ = t := by
  obtain ⟨j, hj, e⟩ := List.getElem_of_mem h
  exact ⟨j, hj, by rw [getD_lt NL j hj, e]⟩
theorem FN.rise {F : ByteArray → Option Nat} {m : Nat} {NL : List ByteArray} {xs : List Nat} (h : FN F m NL xs) {i j : Nat} (hi : i < j) (hj : j < m) : bls (NL.getD i ⟨#[]⟩) (NL.getD j ⟨#[]⟩) := by
  have hl := h.ln
  rw [getD_lt NL i (by omega), getD_lt NL j (by omega)]
  exact List.pairwise_iff_getElem.1 h.nm.2 i j (by omega) (by omega) hi
theorem pw_getD {l : List ByteArray} (h : ∀ i j, i < j → j < l.length → bls (l.getD i ⟨#[]⟩) (l.getD j ⟨#[]⟩)) : l.Pairwise bls := by
  rw [List.pairwise_iff_getElem]
  intro i j hi hj hij
  have := h i j hij hj
  rwa [getD_lt l i hi, getD_lt l j hj] at this
theorem bls_trans {a b c : ByteArray} (h : bls a b) (k : bls b c) : bls a c := List.lt_trans h k
theorem FN.add {F : ByteArray → Option Nat} {m : Nat} {NL : List ByteArray} {xs : List Nat} (h : FN F m NL xs) (hm : m < 16) {s : ByteArray} (hs : s ∉ NL) (hsz : s.size ≤ maxLen) {k : Nat} (hk : k ≤ m) (h1 : ∀ j, j < k → bls (NL.getD j ⟨#[]⟩) s) (h2 : k < m → ¬ bls (NL.getD k ⟨#[]⟩) s) : FN (updN F s (some 0)) (m + 1) (NL.take k ++ [s] ++ NL.drop k) (xs.take k ++ [0] ++ xs.drop k) := by
  have hl := h.ln
  have hx := h.lx
  have inl : ∀ j, j < m → NL.getD j ⟨#[]⟩ ∈ NL := fun j hj => by rw [getD_lt NL j (by omega)]; exact List.getElem_mem _
  have h3 : ∀ j, k ≤ j → j < m → bls s (NL.getD j ⟨#[]⟩) := fun j hj hjm => by
    have b1 : bls s (NL.getD k ⟨#[]⟩) := bls_total (h2 (by omega)) (fun e => hs (by rw [← e]; exact inl k (by omega)))
    by_cases e : j = k
    · subst e; exact b1
    · exact bls_trans b1 (h.rise (by omega) hjm)
  have hlen : (NL.take k ++ [s] ++ NL.drop k).length = m + 1 := by simp; omega
  refine ⟨by omega, ⟨fun t => ?_, pw_getD fun i j hij hj => ?_⟩, hlen, by simp; omega, fun i hi => ?_, fun t x ht => ?_⟩
  · unfold updN
    by_cases e : t = s
    · subst e; simp
    · rw [if_neg e, ← h.mem t]
      constructor
      · intro hm
        simp only [List.mem_append, List.mem_singleton] at hm
        rcases hm with (hm | hm) | hm
        · exact List.mem_of_mem_take hm
        · exact absurd hm e
        · exact List.mem_of_mem_drop hm
      · intro hm
        rw [← List.take_append_drop k NL] at hm
        rcases List.mem_append.1 hm with hm | hm
        · simp [hm]
        · simp [hm]
  · rw [hlen] at hj
    rw [ins_getD NL s _ k i (by omega), ins_getD NL s _ k j (by omega)]
    by_cases a1 : i < k
    · rw [if_pos a1]
      by_cases a2 : j < k
      · rw [if_pos a2]; exact h.rise hij (by omega)
      · rw [if_neg a2]
        by_cases a3 : j = k
        · rw [if_pos a3]; exact h1 i a1
        · rw [if_neg a3]; exact h.rise (by omega) (by omega)
    · rw [if_neg a1, if_neg (show ¬ j < k by omega), if_neg (show ¬ j = k by omega)]
      by_cases a3 : i = k
      · rw [if_pos a3]; exact h3 (j - 1) (by omega) (by omega)
      · rw [if_neg a3]; exact h.rise (by omega) (by omega)
  · rw [ins_getD NL s _ k i (by omega), ins_getD xs 0 0 k i (by omega)]
    unfold updN
    have ne : ∀ j, j < m → ¬ NL.getD j ⟨#[]⟩ = s := fun j hj e => hs (by rw [← e]; exact inl j hj)
    by_cases a1 : i < k
    · rw [if_pos a1, if_pos a1, if_neg (ne i (by omega))]; exact h.ev i (by omega)
    · rw [if_neg a1, if_neg a1]
      by_cases a2 : i = k
      · rw [if_pos a2, if_pos a2, if_pos rfl]
      · rw [if_neg a2, if_neg a2, if_neg (ne (i - 1) (by omega))]; exact h.ev (i - 1) (by omega)
  · unfold updN at ht
    by_cases e : t = s
    · rw [if_pos e] at ht
      cases ht
      exact ⟨by decide, by rw [e]; exact hsz⟩
    · rw [if_neg e] at ht
      exact h.ok t x ht
theorem FN.drop {F : ByteArray → Option Nat} {m : Nat} {NL : List ByteArray} {xs : List Nat} (h : FN F m NL xs) {s : ByteArray} {k : Nat} (hk : k < m) (hs : NL.getD k ⟨#[]⟩ = s) : FN (updN F s none) (m - 1) (NL.take k ++ NL.drop (k + 1)) (xs.take k ++ xs.drop (k + 1)) := by
  have hl := h.ln
  have hx := h.lx
  have hlen : (NL.take k ++ NL.drop (k + 1)).length = m - 1 := by simp; omega
  have hle := h.le
  have ne : ∀ j, j < m → j ≠ k → ¬ NL.getD j ⟨#[]⟩ = s := fun j hj hjk e => hjk (h.inj hj hk (e.trans hs.symm))
  refine ⟨by omega, ⟨fun t => ?_, pw_getD fun i j hij hj => ?_⟩, hlen, by simp; omega, fun i hi => ?_, fun t x ht => ?_⟩
  · unfold updN
    constructor
    · intro hm
      obtain ⟨j, hj, e⟩ := mem_getD hm
      rw [hlen] at hj
      rw [del_getD NL _ k j (by omega)] at e
      have key : ∃ q, q < m ∧ q ≠ k ∧ NL.getD q ⟨#[]⟩ = t := by
        by_cases a : j < k
        · rw [if_pos a] at e; exact ⟨j, by omega, by omega, e⟩
        · rw [if_neg a] at e; exact ⟨j + 1, by omega, by omega, e⟩
      obtain ⟨q, q1, q2, q3⟩ := key
      have hne : ¬ t = s := by rw [← q3]; exact ne q q1 q2
      rw [if_neg hne, ← q3, h.ev q q1]
      rfl
    · intro ht
      by_cases e : t = s
      · rw [if_pos e] at ht; cases ht
      · rw [if_neg e, ← h.mem t] at ht
        obtain ⟨j, hj, e2⟩ := mem_getD ht
        have hjk : j ≠ k := fun q => e (by rw [← e2, q, hs])
        have hm : (NL.take k ++ NL.drop (k + 1)).getD (if j < k then j else j - 1) ⟨#[]⟩ = t := by
          rw [del_getD NL _ k _ (by omega)]
          by_cases a : j < k
          · rw [if_pos a, if_pos a]; exact e2
          · rw [if_neg a, if_neg (by omega), show j - 1 + 1 = j by omega]; exact e2
        have hlt : (if j < k then j else j - 1) < (NL.take k ++ NL.drop (k + 1)).length := by rw [hlen]; split <;> omega
        rw [← hm, getD_lt _ _ hlt]
        exact List.getElem_mem _
  · rw [hlen] at hj
    rw [del_getD NL _ k i (by omega), del_getD NL _ k j (by omega)]
    by_cases a1 : i < k
    · rw [if_pos a1]
      by_cases a2 : j < k
      · rw [if_pos a2]; exact h.rise hij (by omega)
      · rw [if_neg a2]; exact h.rise (by omega) (by omega)
    · rw [if_neg a1, if_neg (by omega)]; exact h.rise (by omega) (by omega)
  · rw [del_getD NL _ k i (by omega), del_getD xs 0 k i (by omega)]
    unfold updN
    by_cases a1 : i < k
    · rw [if_pos a1, if_pos a1, if_neg (ne i (by omega) (by omega))]; exact h.ev i (by omega)
    · rw [if_neg a1, if_neg a1, if_neg (ne (i + 1) (by omega) (by omega))]; exact h.ev (i + 1) (by omega)
  · unfold updN at ht
    by_cases e : t = s
    · rw [if_pos e] at ht; cases ht
    · rw [if_neg e] at ht
      exact h.ok t x ht
theorem FN.lay {F : ByteArray → Option Nat} {m : Nat} {NL : List ByteArray} {xs : List Nat} (h : FN F m NL xs) {s : ByteArray} {k x : Nat} (hk : k < m) (hs : NL.getD k ⟨#[]⟩ = s) (hx : x < top64) : FN (updN F s (some x)) m NL (xs.set k x) := by
  have hl := h.ln
  have hlx := h.lx
  have hin : (F s).isSome = true := by rw [← hs, h.ev k hk]; rfl
  refine ⟨h.le, ⟨fun t => ?_, h.nm.2⟩, hl, by simp [hlx], fun i hi => ?_, fun t y ht => ?_⟩
  · unfold updN
    by_cases e : t = s
    · rw [if_pos e, h.mem t, e, hin]; simp
    · rw [if_neg e]; exact h.mem t
  · unfold updN
    by_cases e : i = k
    · subst e
      rw [if_pos hs, List.getD_eq_getElem?_getD, List.getElem?_set_self (by omega)]
      rfl
    · have e2 : (xs.set k x).getD i 0 = xs.getD i 0 := by rw [List.getD_eq_getElem?_getD, List.getElem?_set_ne (fun q => e q.symm), ← List.getD_eq_getElem?_getD]
      rw [if_neg (fun q => e (h.inj hi hk (q.trans hs.symm))), e2]
      exact h.ev i hi
  · unfold updN at ht
    by_cases e : t = s
    · rw [if_pos e] at ht
      cases ht
      obtain ⟨z, hz⟩ := Option.isSome_iff_exists.1 hin
      exact ⟨hx, by rw [e]; exact (h.ok s z hz).2⟩
    · rw [if_neg e] at ht
      exact h.ok t y ht
theorem FN.purge {F : ByteArray → Option Nat} {m : Nat} {NL : List ByteArray} {xs : List Nat} (h : FN F m NL xs) (n : Nat) : FN (purged F n) m NL (xs.map fun x => mns x (bt n)) := by
  have hl := h.ln
  have hlx := h.lx
  refine ⟨h.le, ⟨fun t => ?_, h.nm.2⟩, hl, by simp [hlx], fun i hi => ?_, fun t y ht => ?_⟩
  · rw [h.mem t]
    unfold purged
    cases F t <;> simp
  · unfold purged
    rw [h.ev i hi]
    simp [List.getD, List.getElem?_eq_getElem (show i < xs.length by omega)]
  · unfold purged at ht
    cases hq : F t with
    | none => rw [hq] at ht; cases ht
    | some z =>
      rw [hq] at ht
      cases ht
      exact ⟨mns_lt (h.ok t z hq).1, (h.ok t z hq).2⟩
end Go.Proofs.YtmpkhbblakfglaaDoor
namespace Go.Proofs.YtmpkhbblakfglaaDoor
open Go.ChangeShapes Go.WideShapes Go.ChangeAt Go.RowKit Go.Maps
set_option linter.unusedVariables false
set_option linter.unusedSimpArgs false

/-- A side, whatever it holds. -/
def SX (B ps : Nat) (w : World) (o : Nat → Nat) : Prop := ∃ pf px N ls F m NL xs, FN F m NL xs ∧ SQ B ps pf px N ls F m NL xs m w o
theorem SX.step {B ps : Nat} {I : Nat → Prop} {w w' : World} {o o' : Nat → Nat} (h : SX B ps w o) (s : Step I w o w' o') (hi : ∀ k, SB B k → ¬ I k) (h0 : ¬ I 0) : SX B ps w' o' := by
  obtain ⟨pf, px, N, ls, F, m, NL, xs, f, h⟩ := h
  exact ⟨pf, px, N, ls, F, m, NL, xs, f, h.step s hi h0⟩
theorem StO.mono {w : World} {o : Nat → Nat} {B : Nat} {Q R : World → (Nat → Nat) → Prop} {e : Ending} {w' : World} (h : StO w o B Q e w') (hq : ∀ w o, Q w o → R w o) : StO w o B R e w' := by
  obtain ⟨h1, o', h2, h3⟩ := h
  exact ⟨h1, o', hq _ _ h2, h3⟩
theorem SQ.below {B ps pf px N : Nat} {ls : List (List ByteArray)} {F : ByteArray → Option Nat} {m : Nat} {NL : List ByteArray} {xs : List Nat} {m2 : Nat} {w w' : World} {o : Nat → Nat} (h : SQ B ps pf px N ls F m NL xs m2 w o) (b : Below w.heap.size w w') : ∃ o', SQ B ps pf px N ls F m NL xs m2 w' o' ∧ Step (SB B) w o w' o' :=
  ⟨o, h.step (Step.ofBelow (I := fun _ => False) o b) (fun _ _ => id) id, Step.ofBelow o b⟩
theorem sb1 {B L : Nat} (hL : L = B + 1000) {k : Nat} (h : k = L + 1) : SB B k := by unfold SB; omega
theorem step_1 (w : World) (o : Nat → Nat) (B ps : Nat) (hB : 1000 ≤ B) (h : SX B ps w o) (n : Int) (s : ByteArray) (hs : s.size ≤ maxLen) (ao : Option Addr) (len cap : Nat) (ot : Bool) :
    Calls Tryd.prog 6 #[.pointer (some ⟨ps, 0, none⟩), .agg #[.int .i64 1, .int .i64 n, .string s, .slice ao len cap, .bool ot]] w fun e w' => StO w o B (SX B ps) e w' := by
  obtain ⟨pf, px, N, ls, F, m, NL, xs, f, q⟩ := h
  have fin : ∀ F' m' w o, SE B ps pf px N ls F' m' w o → SX B ps w o := fun F' m' w o ⟨NL', xs', f', h'⟩ => ⟨pf, px, N, ls, F', m', NL', xs', f', h'⟩
  have same : ∀ w o, SQ B ps pf px N ls F m NL xs m w o → SE B ps pf px N ls F m w o := fun w o h => ⟨NL, xs, f, h⟩
  have fam : ∀ {w : World} {o : Nat → Nat}, SQ B ps pf px N ls F m NL xs m w o → Fam w o (B + 1000) pf m F := fun ⟨_, _, _, _, _, h, _⟩ => h
  have wd : ∀ {w : World} {o : Nat → Nat} {F' m'}, SQ B ps pf px N ls F' m' NL xs m w o → Wd w := fun ⟨_, _, _, _, _, _, _, _, h⟩ => h.1
  have rx : ∀ {w : World} {o : Nat → Nat} {F' m'}, SQ B ps pf px N ls F' m' NL xs m w o → RX w o (B + 1) px m NL xs := fun ⟨_, _, _, _, _, _, h, _⟩ => h
  by_cases hn : isNm s
  · by_cases hin : s ∈ NL
    · have hf := (f.mem s).1 hin
      refine (step_1g w o B ps pf px hB _ _ _ (SQ.sta ..) (SQ.sta ..) (SE.sta ..) q n s ao len cap ot 91 (fun wx ox h => (add_twice wx ox (B + 1000) pf m F s (fam h) hs (wd h) hn hf).mono fun e w' ⟨h1, h2⟩ => ⟨h1, h.below h2⟩) (fun wx ox h => (refAdd_twice wx ox (B + 1) px m NL xs s (rx h) f.le hs hn hin).mono fun e w' ⟨h1, h2⟩ => ?_)).mono fun e w' h => h.mono fun w o h => fin F m w o h
      obtain ⟨o', h3, h4⟩ := h.below h2
      exact ⟨h1, o', same _ _ h3, h4⟩
    · have hf : (F s).isSome = false := by
        cases hq : (F s).isSome with
        | false => rfl
        | true => exact absurd ((f.mem s).2 hq) hin
      by_cases hm : m < 16
      · refine (step_1g w o B ps pf px hB _ (SQ B ps pf px N ls (updN F s (some 0)) (m + 1) NL xs m) (SE B ps pf px N ls (updN F s (some 0)) (m + 1)) (SQ.sta ..) (SQ.sta ..) (SE.sta ..) q n s ao len cap ot 0 (fun wx ox h => (add_ok wx ox (B + 1000) pf m F s (fam h) hs (wd h) hn hf hm).mono fun e w' ⟨h1, h2, h3⟩ => ⟨h1, ox, h.fam h2 (h3.mono fun k hk => by omega) (by omega), h3.mono fun k hk => by unfold SB; omega⟩) (fun wx ox h => (refAdd_ok wx ox (B + 1) px m NL xs s (rx h) hm hs hn hin).mono fun e w' hA => ?_)).mono fun e w' h => h.mono fun w o h => fin _ _ w o h
        obtain ⟨k, hk, h1, h2, o', h3, h4, h5⟩ := hA
        exact ⟨h3, o', ⟨_, _, f.add hm hin hs hk h1 h2, h.ref h4 h5 (by omega)⟩, h5.mono fun k hk => by unfold LL at hk; unfold SB; omega⟩
      · have hm16 : m = 16 := by have := f.le; omega
        refine (step_1g w o B ps pf px hB _ _ _ (SQ.sta ..) (SQ.sta ..) (SE.sta ..) q n s ao len cap ot 92 (fun wx ox h => (add_full wx ox (B + 1000) pf m F s (fam h) hs (wd h) hn hf (by omega)).mono fun e w' ⟨h1, h2⟩ => ⟨h1, h.below h2⟩) (fun wx ox h => (refAdd_full wx ox (B + 1) px m NL xs s (rx h) hm16 hs hn hin).mono fun e w' ⟨h1, h2⟩ => ?_)).mono fun e w' h => h.mono fun w o h => fin F m w o h
        obtain ⟨o', h3, h4⟩ := h.below h2
        exact ⟨h1, o', same _ _ h3, h4⟩
  · refine (step_1g w o B ps pf px hB _ _ _ (SQ.sta ..) (SQ.sta ..) (SE.sta ..) q n s ao len cap ot 90 (fun wx ox h => (add_name wx ox (B + 1000) pf m F s (fam h) hs (wd h) hn).mono fun e w' ⟨h1, h2⟩ => ⟨h1, h.below (by rw [h2]; exact b0 _)⟩) (fun wx ox h => (refAdd_name wx px s hs hn).mono fun e w' ⟨h1, h2⟩ => ?_)).mono fun e w' h => h.mono fun w o h => fin F m w o h
    obtain ⟨o', h3, h4⟩ := h.below h2
    exact ⟨h1, o', same _ _ h3, h4⟩
theorem step_2 (w : World) (o : Nat → Nat) (B ps : Nat) (hB : 1000 ≤ B) (h : SX B ps w o) (n : Int) (s : ByteArray) (hs : s.size ≤ maxLen) (ao : Option Addr) (len cap : Nat) (ot : Bool) :
    Calls Tryd.prog 6 #[.pointer (some ⟨ps, 0, none⟩), .agg #[.int .i64 2, .int .i64 n, .string s, .slice ao len cap, .bool ot]] w fun e w' => StO w o B (SX B ps) e w' := by
  obtain ⟨pf, px, N, ls, F, m, NL, xs, f, q⟩ := h
  have fin : ∀ F' m' w o, SE B ps pf px N ls F' m' w o → SX B ps w o := fun F' m' w o ⟨NL', xs', f', h'⟩ => ⟨pf, px, N, ls, F', m', NL', xs', f', h'⟩
  have same : ∀ w o, SQ B ps pf px N ls F m NL xs m w o → SE B ps pf px N ls F m w o := fun w o h => ⟨NL, xs, f, h⟩
  have fam : ∀ {w : World} {o : Nat → Nat}, SQ B ps pf px N ls F m NL xs m w o → Fam w o (B + 1000) pf m F := fun ⟨_, _, _, _, _, h, _⟩ => h
  have rx : ∀ {w : World} {o : Nat → Nat} {F' m'}, SQ B ps pf px N ls F' m' NL xs m w o → RX w o (B + 1) px m NL xs := fun ⟨_, _, _, _, _, _, h, _⟩ => h
  by_cases hin : s ∈ NL
  · have hf := (f.mem s).1 hin
    refine (step_2g w o B ps pf px hB _ (SQ B ps pf px N ls (updN F s none) (m - 1) NL xs m) (SE B ps pf px N ls (updN F s none) (m - 1)) (SQ.sta ..) (SQ.sta ..) (SE.sta ..) q n s ao len cap ot 0 (fun wx ox h => (drop_ok wx ox (B + 1000) pf m F s (fam h) hs hf).mono fun e w' ⟨h1, h2, h3⟩ => ⟨h1, ox, h.fam h2 (h3.mono fun k hk => by omega) (by omega), h3.mono fun k hk => by unfold SB; omega⟩) (fun wx ox h => (refDrop_ok wx ox (B + 1) px m NL xs s (rx h) f.le hin).mono fun e w' hA => ?_)).mono fun e w' h => h.mono fun w o h => fin _ _ w o h
    obtain ⟨k, hk, h1, o', h3, h4, h5⟩ := hA
    exact ⟨h3, o', ⟨_, _, f.drop hk h1, h.ref h4 h5 (by omega)⟩, h5.mono fun k hk => by unfold LL at hk; unfold SB; omega⟩
  · have hf : (F s).isSome = false := by
      cases hq : (F s).isSome with
      | false => rfl
      | true => exact absurd ((f.mem s).2 hq) hin
    refine (step_2g w o B ps pf px hB _ _ _ (SQ.sta ..) (SQ.sta ..) (SE.sta ..) q n s ao len cap ot 93 (fun wx ox h => (drop_no wx ox (B + 1000) pf m F s (fam h) hs hf).mono fun e w' ⟨h1, h2⟩ => ⟨h1, h.below h2⟩) (fun wx ox h => (refDrop_no wx ox (B + 1) px m NL xs s (rx h) f.le hin).mono fun e w' ⟨h1, h2⟩ => ?_)).mono fun e w' h => h.mono fun w o h => fin F m w o h
    obtain ⟨o', h3, h4⟩ := h.below (show Below wx.heap.size wx w' by rw [h2]; exact b0 _)
    exact ⟨h1, o', same _ _ h3, h4⟩
theorem step_5 (w : World) (o : Nat → Nat) (B ps : Nat) (hB : 1000 ≤ B) (h : SX B ps w o) (n : Int) (s : ByteArray) (ao : Option Addr) (len cap : Nat) (ot : Bool) :
    Calls Tryd.prog 6 #[.pointer (some ⟨ps, 0, none⟩), .agg #[.int .i64 5, .int .i64 n, .string s, .slice ao len cap, .bool ot]] w fun e w' => StO w o B (SX B ps) e w' := by
  obtain ⟨pf, px, N, ls, F, m, NL, xs, f, q⟩ := h
  have fin : ∀ F' m' w o, SE B ps pf px N ls F' m' w o → SX B ps w o := fun F' m' w o ⟨NL', xs', f', h'⟩ => ⟨pf, px, N, ls, F', m', NL', xs', f', h'⟩
  have same : ∀ w o, SQ B ps pf px N ls F m NL xs m w o → SE B ps pf px N ls F m w o := fun w o h => ⟨NL, xs, f, h⟩
  have fam : ∀ {w : World} {o : Nat → Nat}, SQ B ps pf px N ls F m NL xs m w o → Fam w o (B + 1000) pf m F := fun ⟨_, _, _, _, _, h, _⟩ => h
  have rx : ∀ {w : World} {o : Nat → Nat} {F' m'}, SQ B ps pf px N ls F' m' NL xs m w o → RX w o (B + 1) px m NL xs := fun ⟨_, _, _, _, _, _, h, _⟩ => h
  have hle := f.le
  by_cases hn : 0 ≤ n ∧ n < 64
  · obtain ⟨a, rfl⟩ := Int.eq_ofNat_of_zero_le hn.1
    have ha : a < 64 := by omega
    refine (step_5g w o B ps pf px hB _ (SQ B ps pf px N ls (purged F a) m NL xs m) (SE B ps pf px N ls (purged F a) m) (SQ.sta ..) (SQ.sta ..) (SE.sta ..) q a s ao len cap ot 0 (fun wx ox h => (purge_ok wx ox (B + 1000) pf m a F (fam h) (by omega) ha f.ok).mono fun e w' ⟨o', h1, h2, h3⟩ => ⟨h1, o', h.fam h2 (h3.mono fun k hk => by omega) (by omega), h3.mono fun k hk => by unfold SB; omega⟩) (fun wx ox h => (refPurge_ok wx ox (B + 1) px m a NL xs (rx h) f.le ha (fun k hk => (f.ok _ _ (f.ev k hk)).1)).mono fun e w' ⟨h1, h2, h3⟩ => ?_)).mono fun e w' h => h.mono fun w o h => fin _ _ w o h
    exact ⟨h1, ox, ⟨_, _, f.purge a, h.ref h2 h3 (by omega)⟩, h3.mono fun k hk => by unfold LL at hk; unfold SB; omega⟩
  · refine (step_5g w o B ps pf px hB _ _ _ (SQ.sta ..) (SQ.sta ..) (SE.sta ..) q n s ao len cap ot 1 (fun wx ox h => (purge_no wx (some ⟨pf, 0, none⟩) n (by omega)).mono fun e w' ⟨h1, h2⟩ => ⟨h1, h.below (by rw [h2]; exact b0 _)⟩) (fun wx ox h => (refPurge_no wx px n hn).mono fun e w' ⟨h1, h2⟩ => ?_)).mono fun e w' h => h.mono fun w o h => fin F m w o h
    obtain ⟨o', h3, h4⟩ := h.below (show Below wx.heap.size wx w' by rw [h2]; exact b0 _)
    exact ⟨h1, o', same _ _ h3, h4⟩
end Go.Proofs.YtmpkhbblakfglaaDoor
