/- The law ArenaKeeps: its invariant in plain lists: handles as they were given, what was laid there, the arena's things and free handles. No program. -/
import Derived.Test.YtbcpifklnbaooaaAr
namespace Go.Proofs.Ytbcpifklnbaooaa
set_option linter.unusedVariables false

def cntL (N : Nat) (f : Nat → Int) : Nat := ((List.range N).filter fun i => decide (0 ≤ f i)).length
theorem cntL_succ (N : Nat) (f : Nat → Int) : cntL (N + 1) f = cntL N f + if 0 ≤ f N then 1 else 0 := by
  unfold cntL
  rw [List.range_succ, List.filter_append, List.length_append]
  by_cases h : 0 ≤ f N <;> simp [h]
theorem cntL_congr (N : Nat) (f g : Nat → Int) (h : ∀ i, i < N → (0 ≤ f i ↔ 0 ≤ g i)) : cntL N f = cntL N g := by
  unfold cntL
  congr 1
  apply List.filter_congr
  intro i hi
  have := h i (by simpa using hi)
  simp [this]
theorem cntL_le (N : Nat) (f : Nat → Int) : cntL N f ≤ N := by
  unfold cntL
  exact Nat.le_trans (List.length_filter_le _ _) (by simp)
/-- One that was live is so no more. -/
theorem cntL_less (N : Nat) (f g : Nat → Int) (j : Nat) (hj : j < N) (hf : 0 ≤ f j) (hg : ¬ 0 ≤ g j) (h : ∀ i, i < N → i ≠ j → (0 ≤ f i ↔ 0 ≤ g i)) : cntL N g + 1 = cntL N f := by
  induction N with
  | zero => omega
  | succ N ih =>
    rw [cntL_succ, cntL_succ]
    by_cases e : j = N
    · subst e
      rw [cntL_congr j g f (fun i hi => (h i (by omega) (by omega)).symm), if_pos hf, if_neg hg]
    · have h1 := ih (by omega) (fun i hi hne => h i (by omega) hne)
      have h2 := h N (by omega) (fun x => e x.symm)
      by_cases c : 0 ≤ f N
      · rw [if_pos c, if_pos (h2.1 c)]; omega
      · rw [if_neg c, if_neg (fun x => c (h2.2 x))]; omega

structure KInv (z : Nat → Int) (r n : Nat) (ts : List (Int × Int)) (free : List Nat) (N : Nat) (fa : Nat → Nat) (fw : Nat → Int) : Prop where
  rng : ∀ j, j < N → 1 ≤ fa j ∧ fa j ≤ n
  bd : ∀ j, j < N → -1 ≤ fw j ∧ fw j < r
  live : ∀ j, j < N → 0 ≤ fw j → useB free (fa j - 1) = true ∧ ts[fa j - 1]? = some (fw j, z (fw j).toNat)
  one : ∀ i j, i < j → j < N → fa i = fa j → fw i < 0
  all : ∀ h, h < n → useB free h = true → ∃ j, j < N ∧ fa j = h + 1 ∧ 0 ≤ fw j
  cnt : cntL N fw = n - free.length

theorem KInv.start (z : Nat → Int) (fa : Nat → Nat) (fw : Nat → Int) : KInv z 0 0 [] [] 0 fa fw :=
  ⟨fun j hj => by omega, fun j hj => by omega, fun j hj => by omega, fun i j _ hj => by omega, fun h hh => by omega, by simp [cntL]⟩
theorem KInv.next {z : Nat → Int} {r n : Nat} {ts : List (Int × Int)} {free : List Nat} {N : Nat} {fa : Nat → Nat} {fw : Nat → Int} (h : KInv z r n ts free N fa fw) : KInv z (r + 1) n ts free N fa fw :=
  ⟨h.rng, fun j hj => ⟨(h.bd j hj).1, by have := (h.bd j hj).2; omega⟩, h.live, h.one, h.all, h.cnt⟩

theorem KInv.put {z : Nat → Int} {r n n' : Nat} {ts ts' : List (Int × Int)} {free free' : List Nat} {N : Nat} {fa fa' : Nat → Nat} {fw fw' : Nat → Int} (h : KInv z r n ts free N fa fw) (k : Nat)
    (hold : k < n → useB free k = false) (hk : k < n') (hn : n ≤ n') (hts : ts'[k]? = some ((r : Int), z r)) (hother : ∀ i, i ≠ k → i < n → ts'[i]? = ts[i]?)
    (huse : ∀ i, i < n' → i ≠ k → i < n ∧ useB free' i = useB free i) (hnew : useB free' k = true) (hcnt : n' - free'.length = n - free.length + 1)
    (ha : ∀ i, i < N → fa' i = fa i) (hw : ∀ i, i < N → fw' i = fw i) (haN : fa' N = k + 1) (hwN : fw' N = r) : KInv z (r + 1) n' ts' free' (N + 1) fa' fw' := by
  have hlive : ∀ j, j < N → 0 ≤ fw j → fa j ≠ k + 1 := fun j hj h0 e => by
    have h1 := h.rng j hj
    have h2 := (h.live j hj h0).1
    have h3 := hold (by omega)
    rw [e, Nat.add_sub_cancel] at h2
    rw [h2] at h3
    cases h3
  refine ⟨fun j hj => ?_, fun j hj => ?_, fun j hj h0 => ?_, fun i j hij hj he => ?_, fun x hx hu => ?_, ?_⟩
  · by_cases e : j = N
    · subst e; rw [haN]; omega
    · rw [ha j (by omega)]; have := h.rng j (by omega); omega
  · by_cases e : j = N
    · subst e; rw [hwN]; omega
    · rw [hw j (by omega)]; have := h.bd j (by omega); omega
  · by_cases e : j = N
    · subst e
      rw [haN, hwN, Nat.add_sub_cancel]
      exact ⟨hnew, by rw [hts]; rfl⟩
    · have hj' : j < N := by omega
      rw [hw j hj'] at h0 ⊢
      rw [ha j hj']
      have h1 := h.live j hj' h0
      have h2 := h.rng j hj'
      have h3 := hlive j hj' h0
      have h4 := huse (fa j - 1) (by omega) (by omega)
      exact ⟨by rw [h4.2]; exact h1.1, by rw [hother _ (by omega) (by omega)]; exact h1.2⟩
  · have hi' : i < N := by omega
    rw [hw i hi']
    rw [ha i hi'] at he
    by_cases e : j = N
    · subst e
      rw [haN] at he
      rcases Int.lt_or_le (fw i) 0 with h' | h'
      · exact h'
      · exact absurd he (hlive i hi' h')
    · rw [ha j (by omega)] at he
      exact h.one i j hij (by omega) he
  · by_cases e : x = k
    · exact ⟨N, by omega, by rw [haN, e], by rw [hwN]; omega⟩
    · have h1 := huse x hx e
      rw [h1.2] at hu
      obtain ⟨j, hj, h2, h3⟩ := h.all x h1.1 hu
      exact ⟨j, by omega, by rw [ha j hj]; exact h2, by rw [hw j hj]; exact h3⟩
  · rw [cntL_succ, cntL_congr N fw' fw (fun i hi => by rw [hw i hi]), h.cnt, hwN, if_pos (by omega), hcnt]

theorem KInv.later {z : Nat → Int} {r n : Nat} {ts : List (Int × Int)} {free : List Nat} {N : Nat} {fa : Nat → Nat} {fw : Nat → Int} (h : KInv z r n ts free N fa fw) (k : Nat) (hk : k < N) (hw : fw k < 0) (hu : useB free (fa k - 1) = true) :
    ∃ j, k < j ∧ j < N ∧ fa j = fa k ∧ 0 ≤ fw j := by
  have h1 := h.rng k hk
  obtain ⟨j, hj, h2, h3⟩ := h.all (fa k - 1) (by omega) hu
  have h4 : fa j = fa k := by omega
  refine ⟨j, ?_, hj, h4, h3⟩
  rcases Nat.lt_trichotomy k j with h5 | h5 | h5
  · exact h5
  · subst h5; omega
  · have := h.one j k h5 hk h4; omega

theorem KInv.drop {z : Nat → Int} {r n : Nat} {ts : List (Int × Int)} {free : List Nat} {N : Nat} {fa : Nat → Nat} {fw fw' : Nat → Int} (h : KInv z r n ts free N fa fw) (k : Nat) (hk : k < n) (hu : useB free k = true) (hts : n ≤ ts.length)
    (hw : ∀ i, i < N → fw' i = if fa i = k + 1 then -1 else fw i) : KInv z (r + 1) n (ts.set k (0, 0)) (free ++ [k + 1]) N fa fw' := by
  have huse : ∀ i, useB (free ++ [k + 1]) i = (useB free i && !(i == k)) := fun i => by
    simp only [useB, List.contains_eq_mem, List.mem_append, List.mem_singleton]
    by_cases e : i = k
    · subst e; simp
    · have : i + 1 ≠ k + 1 := by omega
      simp [e]
  have hlive : ∀ j, j < N → 0 ≤ fw' j → fa j ≠ k + 1 ∧ fw' j = fw j := fun j hj h0 => by
    rw [hw j hj] at h0 ⊢
    by_cases e : fa j = k + 1
    · rw [if_pos e] at h0; omega
    · exact ⟨e, by rw [if_neg e]⟩
  refine ⟨h.rng, fun j hj => ?_, fun j hj h0 => ?_, fun i j hij hj he => ?_, fun x hx hu' => ?_, ?_⟩
  · have h1 := h.bd j hj
    rw [hw j hj]
    split <;> omega
  · obtain ⟨h1, h2⟩ := hlive j hj h0
    rw [h2] at h0 ⊢
    have h3 := h.live j hj h0
    have h4 := h.rng j hj
    rw [huse, h3.1, List.getElem?_set, if_neg (by omega)]
    exact ⟨by simp; omega, h3.2⟩
  · have h1 := h.one i j hij hj he
    rw [hw i (by omega)]
    split <;> omega
  · rw [huse] at hu'
    simp only [Bool.and_eq_true, Bool.not_eq_true', beq_eq_false_iff_ne, ne_eq] at hu'
    obtain ⟨j, hj, h2, h3⟩ := h.all x hx hu'.1
    exact ⟨j, hj, h2, by rw [hw j hj, if_neg (by omega)]; exact h3⟩
  · obtain ⟨j, hj, h2, h3⟩ := h.all k hk hu
    have h4 := cntL_less N fw fw' j hj h3 (by rw [hw j hj, if_pos h2]; omega) (fun i hi hne => by
      rw [hw i hi]
      by_cases e : fa i = k + 1
      · rw [if_pos e]
        have h5 : fw i < 0 := by
          rcases Nat.lt_trichotomy i j with h6 | h6 | h6
          · exact h.one i j h6 hj (by omega)
          · exact absurd h6 hne
          · have := h.one j i h6 hi (by omega); omega
        omega
      · rw [if_neg e])
    have h5 := h.cnt
    rw [List.length_append, List.length_singleton]
    omega

end Go.Proofs.Ytbcpifklnbaooaa
