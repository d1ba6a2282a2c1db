/- Sixteen names, their sets; what the law VsetGroups asks of groups. No program. -/
import Derived.Test.YtabkbldhiigcgaaDoorSameC
import Derived.Test.YtabkbldhiigcgaaDoorAwake9
import Derived.Test.YtabkbldhiigcgaaDoorBoxes
import Derived.Sort.Walk0
namespace Go.Proofs.YtabkbldhiigcgaaDoor
open Go.ChangeShapes Go.WideShapes Go.ChangeAt Go.RowKit Go.Maps
set_option linter.unusedVariables false

/-- The name of place j. -/
def nm9 (j : Nat) : ByteArray := ⟨#[115, UInt8.ofNat (97 + j)]⟩
theorem nm9_inj {i j : Nat} (hi : i < 16) (hj : j < 16) (h : nm9 i = nm9 j) : i = j := by
  have h1 : (nm9 i).data = (nm9 j).data := congrArg ByteArray.data h
  simp only [nm9, Array.mk.injEq, List.cons.injEq, true_and, and_true] at h1
  have h2 := congrArg UInt8.toNat h1
  simp only [UInt8.toNat_ofNat'] at h2
  omega
theorem nm9_size (j : Nat) : (nm9 j).size = 2 := rfl
theorem nm9_last (j : Nat) (hj : j < 16) (h : 1 < (nm9 j).size) : ((nm9 j)[1]).toNat = 97 + j := by
  show (UInt8.ofNat (97 + j)).toNat = _
  rw [UInt8.toNat_ofNat']
  omega
theorem nm9_name (j : Nat) (hj : j < 16) : isNm (nm9 j) := by
  refine ⟨by show 0 < 2; decide, by show 2 ≤ 12; decide, fun _ => ⟨by show 97 ≤ (115 : UInt8).toNat; decide, by show (115 : UInt8).toNat ≤ 122; decide⟩, fun i h hi => ?_, ?_⟩
  · have h2 : i < 2 := h
    have e : i = 1 := by omega
    subst e
    left
    rw [nm9_last j hj]
    omega
  · rintro ⟨k, hk, e⟩
    have key : ∀ j, j < 16 → ∀ k, k < 27 → (nm9 j).data ≠ (word9 k).data := by decide +kernel
    exact key j hj k hk (congrArg ByteArray.data e)
theorem nm9_full (j : Nat) : nm9 j ≠ ⟨#[]⟩ := fun e => by have := congrArg ByteArray.size e; exact absurd this (by show ¬ (2 = 0); decide)
/-- The sets by names behind k rounds. -/
def fgo (xs : Nat → Nat) : Nat → ByteArray → Option Nat
  | 0 => fun _ => none
  | k + 1 => updN (fgo xs k) (nm9 k) (some (xs k))
theorem fgo_inv (xs : Nat → Nat) (s : ByteArray) (x : Nat) : ∀ k, fgo xs k s = some x → ∃ j, j < k ∧ s = nm9 j ∧ x = xs j
  | 0, h => by simp [fgo] at h
  | k + 1, h => by
    unfold fgo updN at h
    split at h
    · rename_i e; exact ⟨k, by omega, e, (Option.some.inj h).symm⟩
    · obtain ⟨j, h1, h2⟩ := fgo_inv xs s x k h
      exact ⟨j, by omega, h2⟩
theorem fgo_at (xs : Nat → Nat) (j : Nat) : ∀ k, k ≤ 16 → j < k → fgo xs k (nm9 j) = some (xs j)
  | 0, _, h => by omega
  | k + 1, hk, h => by
    unfold fgo updN
    by_cases e : j = k
    · subst e; rw [if_pos rfl]
    · rw [if_neg (fun q => e (nm9_inj (by omega) (by omega) q))]
      exact fgo_at xs j k (by omega) (by omega)
theorem fgo_none (xs : Nat → Nat) (k : Nat) (hk : k < 16) : fgo xs k (nm9 k) = none := by
  cases h : fgo xs k (nm9 k) with
  | none => rfl
  | some x =>
    obtain ⟨j, h1, h2, _⟩ := fgo_inv xs _ _ k h
    exact absurd (nm9_inj hk (by omega) h2) (by omega)
theorem fgo_ext {xs ys : Nat → Nat} : ∀ k, (∀ j, j < k → xs j = ys j) → fgo xs k = fgo ys k
  | 0, _ => rfl
  | k + 1, h => by unfold fgo; rw [fgo_ext k (fun j hj => h j (by omega)), h k (by omega)]
theorem updN_twice (F : ByteArray → Option Nat) (s : ByteArray) (a b : Option Nat) : updN (updN F s a) s b = updN F s b := by
  funext t
  unfold updN
  split <;> rfl
/-- A text is not ahead of or like one that is ahead of it. -/
theorem not_leq {s t : ByteArray} (h : bls s t) : Op.bytesLess t.toList s.toList = false ∧ (t.toList == s.toList) = false := by
  have h' : s.data.toList < t.data.toList := h
  rw [ByteArray.toList_eq, ByteArray.toList_eq]
  refine ⟨?_, ?_⟩
  · rw [bytesLess_eq]
    exact decide_eq_false (List.lt_asymm h')
  · rw [beq_eq_false_iff_ne]
    intro e
    rw [e] at h'
    exact List.lt_irrefl _ h'
/-- How many names the first k groups have. -/
def cntG (G : Grp) : Nat → Nat
  | 0 => 0
  | k + 1 => cntG G k + (match G[k]? with | some p => p.2.length | none => 0)
theorem cntG_flat (G : Grp) : ∀ k, cntG G k = ((G.take k).flatMap (·.2)).length
  | 0 => rfl
  | k + 1 => by
    unfold cntG
    rw [cntG_flat G k, List.take_add_one, List.flatMap_append, List.length_append]
    cases G[k]? <;> simp
theorem cntG_mono (G : Grp) (i : Nat) : ∀ j, i ≤ j → cntG G i ≤ cntG G j
  | 0, h => by obtain rfl : i = 0 := by omega
               exact Nat.le_refl _
  | j + 1, h => by
    by_cases e : i = j + 1
    · subst e; exact Nat.le_refl _
    · exact Nat.le_trans (cntG_mono G i j (by omega)) (by show cntG G j ≤ cntG G j + _; omega)
theorem GrpOf.count {F : ByteArray → Option Nat} {NL : List ByteArray} {G : Grp} (h : GrpOf F NL G) (hN : NamesOf F NL) : cntG G G.length = NL.length := by
  rw [cntG_flat, List.take_length]
  have hmem : ∀ s, s ∈ G.flatMap (·.2) ↔ s ∈ NL := fun s => by
    rw [List.mem_flatMap]
    constructor
    · rintro ⟨p, hp, hs⟩
      obtain ⟨i, hi, rfl⟩ := List.getElem_of_mem hp
      exact ((h.sets i hi s).1 hs).1
    · intro hs
      obtain ⟨x, hx⟩ := Option.isSome_iff_exists.1 ((hN.1 s).1 hs)
      obtain ⟨i, hi, e⟩ := h.all s x hs hx
      exact ⟨_, List.getElem_mem hi, (h.sets i hi s).2 ⟨hs, by rw [e]; exact hx⟩⟩
  have hnd : (G.flatMap (·.2)).Nodup := by
    unfold List.flatMap List.Nodup
    rw [List.pairwise_flatten]
    refine ⟨fun l hl => ?_, ?_⟩
    · obtain ⟨p, hp, rfl⟩ := List.mem_map.1 hl
      obtain ⟨i, hi, rfl⟩ := List.getElem_of_mem hp
      exact List.Nodup.sublist (h.sub i hi) hN.nodup
    · rw [List.pairwise_map, List.pairwise_iff_getElem]
      intro i j hi hj hij a ha b hb e
      have h1 := (h.sets i hi a).1 ha
      have h2 := (h.sets j hj b).1 hb
      rw [e, h2.2] at h1
      have := h.apart i j hi hj (Option.some.inj h1.2).symm
      omega
  exact ((List.perm_ext_iff_of_nodup hnd hN.nodup).2 hmem).length_eq
def more9 : ByteArray := ⟨#[109, 111, 114, 101]⟩
theorem more_name : isNm more9 := by
  refine ⟨by show 0 < 4; decide, by show 4 ≤ 12; decide, fun _ => ⟨by show 97 ≤ (109 : UInt8).toNat; decide, by show (109 : UInt8).toNat ≤ 122; decide⟩, fun i h hi => ?_, ?_⟩
  · have h3 : i < 4 := h
    match i, h3, hi with
    | 1, _, _ => exact .inl ⟨by show 97 ≤ (111 : UInt8).toNat; decide, by show (111 : UInt8).toNat ≤ 122; decide⟩
    | 2, _, _ => exact .inl ⟨by show 97 ≤ (114 : UInt8).toNat; decide, by show (114 : UInt8).toNat ≤ 122; decide⟩
    | 3, _, _ => exact .inl ⟨by show 97 ≤ (101 : UInt8).toNat; decide, by show (101 : UInt8).toNat ≤ 122; decide⟩
  · rintro ⟨j, hj, e⟩
    have key : ∀ j, j < 27 → more9.data ≠ (word9 j).data := by decide
    exact key j hj (congrArg ByteArray.data e)
theorem more_size : more9.size ≤ maxLen := by unfold maxLen; decide
theorem more_none (xs : Nat → Nat) : fgo xs 16 more9 = none := by
  cases h : fgo xs 16 more9 with
  | none => rfl
  | some x =>
    obtain ⟨j, h1, h2, _⟩ := fgo_inv xs _ _ 16 h
    exact absurd (congrArg ByteArray.size h2) (by show ¬ (4 = 2); decide)
theorem fgo_fine {xs : Nat → Nat} (hxs : ∀ j, j < 16 → xs j < top64) : ∀ s x, fgo xs 16 s = some x → x < top64 ∧ s.size ≤ maxLen := fun s x h => by
  obtain ⟨j, h1, rfl, rfl⟩ := fgo_inv xs _ _ 16 h
  exact ⟨hxs j h1, by rw [nm9_size]; unfold maxLen; omega⟩
theorem pg_inv {xs : Nat → Nat} {m : Nat} {s : ByteArray} {y : Nat} (h : purged (fgo xs 16) m s = some y) : ∃ j, j < 16 ∧ s = nm9 j ∧ y = mns (xs j) (bt m) := by
  unfold purged at h
  cases hf : fgo xs 16 s with
  | none => rw [hf] at h; cases h
  | some x =>
    rw [hf] at h
    obtain ⟨j, h1, h2, h3⟩ := fgo_inv xs _ _ 16 hf
    exact ⟨j, h1, h2, by rw [← h3]; exact (Option.some.inj h).symm⟩
theorem pg_fine {xs : Nat → Nat} {m : Nat} (hxs : ∀ j, j < 16 → xs j < top64) : ∀ s x, purged (fgo xs 16) m s = some x → x < top64 ∧ s.size ≤ maxLen := fun s x h => by
  obtain ⟨j, h1, rfl, rfl⟩ := pg_inv h
  exact ⟨mns_lt (hxs j h1), by rw [nm9_size]; unfold maxLen; omega⟩
/-- A group's names rise; the groups' first names rise. -/
theorem GrpOf.rise {F : ByteArray → Option Nat} {NL : List ByteArray} {G : Grp} (h : GrpOf F NL G) (hN : NamesOf F NL) (i k : Nat) (hi : i < G.length) (hk : k + 1 < (G[i]).2.length) : bls ((G[i]).2[k]'(by omega)) ((G[i]).2[k + 1]'hk) :=
  (List.pairwise_iff_getElem.1 (hN.2.sublist (h.sub i hi))) k (k + 1) (by omega) hk (by omega)
theorem GrpOf.risen {F : ByteArray → Option Nat} {NL : List ByteArray} {G : Grp} (h : GrpOf F NL G) (hN : NamesOf F NL) (i : Nat) (hi : i + 1 < G.length) (l1 : 0 < (G[i]'(by omega)).2.length) (l2 : 0 < (G[i + 1]'hi).2.length) : bls ((G[i]'(by omega)).2[0]'l1) ((G[i + 1]'hi).2[0]'l2) := by
  obtain ⟨a, b, A, B, C, h1, h2, h3⟩ := h.heads i (i + 1) (by omega) hi (by omega)
  have e1 : (G[i]'(by omega)).2[0]'l1 = a := by
    rw [List.head?_eq_getElem?, List.getElem?_eq_getElem l1] at h1
    exact Option.some.inj h1
  have e2 : (G[i + 1]'hi).2[0]'l2 = b := by
    rw [List.head?_eq_getElem?, List.getElem?_eq_getElem l2] at h2
    exact Option.some.inj h2
  rw [e1, e2]
  have hp := hN.2
  rw [h3, List.pairwise_append] at hp
  have := (List.pairwise_cons.1 hp.2.1).1 b (by simp)
  exact this
end Go.Proofs.YtabkbldhiigcgaaDoor
