/- Names that are bound: slices of texts. -/
import Derived.Test.YtojleoionpnjpaaGreatDoorTypM
import Derived.Lib.SliceRun
namespace Go.Proofs.YtojleoionpnjpaaGreatDoor
set_option linter.unusedVariables false
set_option linter.unusedSimpArgs false

/-- What is of a kind is so where more names are bound. -/
theorem chkFs_more : ∀ (f : Fs) (k n : Int) (nm : List UInt8) (len : Nat) (b b2 : List (List UInt8)) (i : Nat) (done d : List Int),
    (∀ x, x ∈ b → x ∈ b2) → chkFs f k n nm len b i done = .inr d → chkFs f k n nm len b2 i done = .inr d
  | ⟨none⟩, k, n, nm, len, b, b2, i, done, d, hs, h => h
  | ⟨some ⟨kk, kn, km, ka, kks, kr⟩⟩, k, n, nm, len, b, b2, i, done, d, hs, h => by
    simp only [chkFs] at h ⊢
    have hs' : ∀ x, x ∈ (if k = 21 ∧ i ≠ 0 then b ++ [nm] else b) → x ∈ (if k = 21 ∧ i ≠ 0 then b2 ++ [nm] else b2) := by
      intro x hx
      by_cases hq : k = 21 ∧ i ≠ 0
      · rw [if_pos hq] at hx ⊢
        rcases List.mem_append.mp hx with h1 | h1
        · exact List.mem_append.mpr (Or.inl (hs x h1))
        · exact List.mem_append.mpr (Or.inr h1)
      · rw [if_neg hq] at hx ⊢
        exact hs x hx
    generalize (if k = 21 ∧ i ≠ 0 then b ++ [nm] else b) = c at h hs'
    generalize (if k = 21 ∧ i ≠ 0 then b2 ++ [nm] else b2) = c2 at hs' ⊢
    by_cases hv : kk = 4 ∧ ¬ km ∈ c
    · rw [if_pos hv] at h
      simp only [mustT] at h
      cases h
    · have hv2 : ¬ (kk = 4 ∧ ¬ km ∈ c2) := by
        rintro ⟨h1, h2⟩
        exact hv ⟨h1, fun h3 => h2 (hs' _ h3)⟩
      rw [if_neg hv] at h
      rw [if_neg hv2]
      cases hc : chkFs kks kk kn km kks.len c 0 [] with
      | inl x => rw [hc] at h; simp only [mustT] at h; cases h
      | inr e =>
        rw [chkFs_more kks _ _ _ _ c c2 _ _ e hs' hc]
        rw [hc] at h
        simp only [mustT] at h ⊢
        by_cases hm : ruleT k n len done ≠ 0 ∧ ruleT kk kn kks.len e ≠ ruleT k n len done
        · rw [if_pos hm] at h; cases h
        · rw [if_neg hm] at h ⊢
          exact chkFs_more kr _ _ _ _ b b2 _ _ d hs h
theorem chkE_more {e : Ex} {b : List (List UInt8)} (b2 : List (List UInt8)) {k : Int} (hs : ∀ x, x ∈ b → x ∈ b2) (h : chkE e b = .inr k) : chkE e b2 = .inr k := by
  unfold chkE at h ⊢
  by_cases hv : e.k = 4 ∧ ¬ e.nm ∈ b
  · rw [if_pos hv] at h; cases h
  · rw [if_neg hv] at h
    rw [if_neg (fun h2 => hv ⟨h2.1, fun h3 => h2.2 (hs _ h3)⟩)]
    cases hc : chkFs e.kids e.k e.n e.nm e.kids.len b 0 [] with
    | inl x => rw [hc] at h; cases h
    | inr d =>
      rw [chkFs_more _ _ _ _ _ b b2 _ _ d hs hc]
      rw [hc] at h
      exact h
/-- What is typed is a right tree and of a kind where nothing is bound. -/
theorem typA_ok {e : Ex} {k a : Int} (h : typA e = (k, 0, a)) : chkE e [] = .inr k ∧ a = 0 := by
  unfold typA at h
  cases hw : writA e with
  | none => rw [hw] at h; simp at h
  | some t =>
    rw [hw] at h
    simp only at h
    cases hc : chkE e [] with
    | inl x =>
      obtain ⟨er, b⟩ := x
      have her := chkE_er hc
      rw [hc] at h
      simp only [Prod.mk.injEq] at h
      omega
    | inr d =>
      rw [hc] at h
      simp only [Prod.mk.injEq] at h
      exact ⟨by rw [h.1], h.2.2.symm⟩
def endT (k n : Int) (len : Nat) : Sum (Nat × Int) (List Int) → Sum (Nat × Int) Int
  | .inl x => .inl x
  | .inr d => .inr (ruleT k n len d)
theorem chkE_kids (e : Ex) (b : List (List UInt8)) (h : e.k ≠ 4) : chkE e b = endT e.k e.n e.kids.len (chkFs e.kids e.k e.n e.nm e.kids.len b 0 []) := by
  unfold chkE
  rw [if_neg (fun h2 => h h2.1)]
  cases chkFs e.kids e.k e.n e.nm e.kids.len b 0 [] <;> rfl
/-- A quantifier over all vertices. -/
def quantX (q : Int) (nm : List UInt8) (a sa : Int) (e : Ex) : Ex := ⟨21, q, nm, a, .cons 22 0 [] sa .nil (.cons e.k e.n e.nm e.a e.kids .nil)⟩
theorem chk_quantX {e : Ex} {k : Int} (q : Int) (nm : List UInt8) (a sa : Int) (h : chkE e [] = .inr k) (hq : 1 ≤ q) (hq6 : q ≤ 6) :
    chkE (quantX q nm a sa e) [] = (if k = (if q ≤ 3 then 2 else 1) then (.inr (if q ≤ 2 then 2 else 1)) else .inl (131, e.a)) := by
  have h2 : chkE e ([] ++ [nm]) = .inr k := chkE_more _ (by intro x hx; cases hx) h
  have hs : chkE ⟨22, 0, [], sa, .nil⟩ [] = .inr 4 := rfl
  have e1 := chk_ex ⟨22, 0, [], sa, .nil⟩ (.cons e.k e.n e.nm e.a e.kids .nil) 21 q nm 2 [] 0 []
  have e2 := chk_ex e .nil 21 q nm 2 [] 1 [4]
  rw [if_neg (by omega), hs] at e1
  rw [if_pos (by decide), h2] at e2
  rw [chkE_kids (quantX q nm a sa e) [] (by show (21 : Int) ≠ 4; omega)]
  show endT 21 q 2 (chkFs (.cons 22 0 [] sa .nil (.cons e.k e.n e.nm e.a e.kids .nil)) 21 q nm 2 [] 0 []) = _
  rw [e1]
  have hq7 : q = 1 ∨ q = 2 ∨ q = 3 ∨ q = 4 ∨ q = 5 ∨ q = 6 := by omega
  have r0 : ruleT 21 q 2 [] = 4 := by rcases hq7 with rfl | rfl | rfl | rfl | rfl | rfl <;> rfl
  have r1 : ruleT 21 q 2 [4] = (if q ≤ 3 then 2 else 1) := by rcases hq7 with rfl | rfl | rfl | rfl | rfl | rfl <;> rfl
  have r2 : ruleT 21 q 2 [4, k] = (if q ≤ 2 then 2 else 1) := by rcases hq7 with rfl | rfl | rfl | rfl | rfl | rfl <;> rfl
  rw [r0]
  have m0 : mustT 4 sa (.inr 4) = .inr 4 := rfl
  simp only [m0, List.nil_append]
  rw [e2, r1]
  have hm0 : (if q ≤ 3 then (2 : Int) else 1) ≠ 0 := by split <;> omega
  by_cases hk : k = (if q ≤ 3 then 2 else 1)
  · rw [if_pos hk]
    simp only [mustT]
    rw [if_neg (by rintro ⟨_, h5⟩; exact h5 hk)]
    simp only [List.cons_append, List.nil_append]
    show (.inr (ruleT 21 q 2 [4, k]) : Sum (Nat × Int) Int) = _
    rw [r2]
  · rw [if_neg hk]
    simp only [mustT]
    rw [if_pos ⟨hm0, hk⟩]
    rfl
end Go.Proofs.YtojleoionpnjpaaGreatDoor
namespace Go.Proofs.YtojleoionpnjpaaGreatDoor
set_option linter.unusedVariables false
set_option linter.unusedSimpArgs false

/-- The rule of a part may be asked. -/
def okR (k n : Int) (len : Nat) : Prop :=
  (k = 13 ∨ k = 14 ∨ k = 19 ∨ k = 25) ∨ (k = 20 ∧ (1 ≤ n ∧ n ≤ 10) ∧ (fixL 20 n).length = len + 1) ∨ (k = 21 ∧ (1 ≤ n ∧ n ≤ 6) ∧ (fixL 21 n).length = len + 1)
    ∨ ((1 ≤ k ∧ k ≤ 24 ∧ k ≠ 5 ∧ k ≠ 20 ∧ k ≠ 21 ∧ k ≠ 13 ∧ k ≠ 14 ∧ k ≠ 19) ∧ (fixL k 0).length = len + 1)
theorem callT_rng (n : Int) : (callOf n).isSome = decide (1 ≤ n ∧ n ≤ 10) := by
  by_cases h : 1 ≤ n ∧ n ≤ 10
  · have h2 : n = 1 ∨ n = 2 ∨ n = 3 ∨ n = 4 ∨ n = 5 ∨ n = 6 ∨ n = 7 ∨ n = 8 ∨ n = 9 ∨ n = 10 := by omega
    rcases h2 with rfl | rfl | rfl | rfl | rfl | rfl | rfl | rfl | rfl | rfl <;> rfl
  · rw [decide_eq_false h]
    cases hc : callOf n with
    | none => rfl
    | some x =>
      have h1 := List.find?_some hc
      have h2 := List.mem_of_find?_eq_some hc
      simp only [callsL, List.mem_cons, List.not_mem_nil, or_false] at h2
      simp only [beq_iff_eq] at h1
      exfalso
      rcases h2 with rfl | rfl | rfl | rfl | rfl | rfl | rfl | rfl | rfl | rfl <;> simp only at h1 <;> omega
theorem quantT_rng (n : Int) : (quantOf n).isSome = decide (1 ≤ n ∧ n ≤ 6) := by
  by_cases h : 1 ≤ n ∧ n ≤ 6
  · have h2 : n = 1 ∨ n = 2 ∨ n = 3 ∨ n = 4 ∨ n = 5 ∨ n = 6 := by omega
    rcases h2 with rfl | rfl | rfl | rfl | rfl | rfl <;> rfl
  · rw [decide_eq_false h]
    cases hc : quantOf n with
    | none => rfl
    | some x =>
      have h1 := List.find?_some hc
      have h2 := List.mem_of_find?_eq_some hc
      simp only [quantsL, List.mem_cons, List.not_mem_nil, or_false] at h2
      simp only [beq_iff_eq] at h1
      exfalso
      rcases h2 with rfl | rfl | rfl | rfl | rfl | rfl <;> simp only at h1 <;> omega
theorem opT_rng {k : Int} (h : (opOf k).isSome = true) : 8 ≤ k ∧ k ≤ 18 := by
  cases hc : opOf k with
  | none => rw [hc] at h; cases h
  | some x =>
    have h1 := List.find?_some hc
    have h2 := List.mem_of_find?_eq_some hc
    simp only [opsL, List.mem_cons, List.not_mem_nil, or_false] at h2
    simp only [beq_iff_eq] at h1
    rcases h2 with rfl | rfl | rfl | rfl | rfl | rfl | rfl | rfl | rfl | rfl | rfl <;> simp only at h1 <;> omega
theorem okR_of {k n : Int} {nm : List UInt8} {m : Nat} (h : okP k n nm m) : okR k n m := by
  obtain ⟨h1, -, h2, -, -, -⟩ := h
  unfold kidB at h2
  unfold numB at h1
  by_cases a0 : k = 1 ∨ k = 2 ∨ k = 3 ∨ k = 4 ∨ k = 22 ∨ k = 23
  · have e1 : (k == 1 || k == 2 || k == 3 || k == 4 || k == 22 || k == 23) = true := by rcases a0 with rfl | rfl | rfl | rfl | rfl | rfl <;> rfl
    rw [e1, if_pos rfl] at h2
    have : m = 0 := by simpa using h2
    subst this
    refine .inr (.inr (.inr ⟨by omega, ?_⟩))
    rcases a0 with rfl | rfl | rfl | rfl | rfl | rfl <;> rfl
  by_cases a1 : k = 6 ∨ k = 7 ∨ k = 24
  · have : m = 1 := by rcases a1 with rfl | rfl | rfl <;> (simp at h2; omega)
    subst this
    refine .inr (.inr (.inr ⟨by omega, ?_⟩))
    rcases a1 with rfl | rfl | rfl <;> rfl
  by_cases a2 : k = 21
  · subst a2
    have hm : m = 2 := by simp at h2; omega
    have hn : (quantOf n).isSome = true := by simpa using h1
    rw [quantT_rng] at hn
    have hn2 := of_decide_eq_true hn
    subst hm
    refine .inr (.inr (.inl ⟨rfl, hn2, ?_⟩))
    have h3 : n = 1 ∨ n = 2 ∨ n = 3 ∨ n = 4 ∨ n = 5 ∨ n = 6 := by omega
    rcases h3 with rfl | rfl | rfl | rfl | rfl | rfl <;> rfl
  by_cases a3 : k = 19
  · exact .inl (by omega)
  by_cases a4 : k = 20
  · subst a4
    have hn : (callOf n).isSome = true := by simpa using h1
    rw [callT_rng] at hn
    have hn2 := of_decide_eq_true hn
    refine .inr (.inl ⟨rfl, hn2, ?_⟩)
    have h3 : n = 1 ∨ n = 2 ∨ n = 3 ∨ n = 4 ∨ n = 5 ∨ n = 6 ∨ n = 7 ∨ n = 8 ∨ n = 9 ∨ n = 10 := by omega
    rcases h3 with rfl | rfl | rfl | rfl | rfl | rfl | rfl | rfl | rfl | rfl <;>
      (simp [callOf, callsL] at h2; simp [fixL]; omega)
  by_cases a5 : k = 25
  · exact .inl (by omega)
  have e1 : (k == 1 || k == 2 || k == 3 || k == 4 || k == 22 || k == 23) = false := by simp; omega
  have e2 : (k == 6 || k == 7 || k == 24) = false := by simp; omega
  have e3 : (k == 21) = false := by simpa using a2
  have e4 : (k == 19) = false := by simpa using a3
  have e5 : (k == 20) = false := by simpa using a4
  have e6 : (k == 25) = false := by simpa using a5
  rw [e1, e2, e3, e4, e5, e6] at h2
  simp only [Bool.false_eq_true, if_false, Bool.and_eq_true, beq_iff_eq] at h2
  have hr := opT_rng h2.1
  have hm : m = 2 := by omega
  subst hm
  by_cases a6 : k = 13 ∨ k = 14
  · exact .inl (by omega)
  refine .inr (.inr (.inr ⟨by omega, ?_⟩))
  have h3 : k = 8 ∨ k = 9 ∨ k = 10 ∨ k = 11 ∨ k = 12 ∨ k = 15 ∨ k = 16 ∨ k = 17 ∨ k = 18 := by omega
  rcases h3 with rfl | rfl | rfl | rfl | rfl | rfl | rfl | rfl | rfl <;> rfl
theorem okR_kind {k n : Int} {m : Nat} (h : okR k n m) : 1 ≤ k ∧ k ≤ 25 ∧ k ≠ 5 := by
  unfold okR at h
  omega
end Go.Proofs.YtojleoionpnjpaaGreatDoor
namespace Go.Proofs.YtojleoionpnjpaaGreatDoor
open Go.ChangeShapes Go.WideShapes Go.ChangeAt Go.RowKit
set_option linter.unusedVariables false
set_option linter.unusedSimpArgs false

/-- A box that holds a table of fixed rules. -/
def Byn (w : World) (b n : Nat) (T : List (List Int)) : Prop :=
  b < w.heap.size ∧ ∃ g cap, w.cell? ⟨b, 0, none⟩ = some (.slice (some ⟨g, 0, none⟩) n cap) ∧ FxT w g T
theorem Byn.below {w w' : World} {b n : Nat} {T : List (List Int)} (h : Byn w b n T) (B : Below w.heap.size w w') : Byn w' b n T := by
  obtain ⟨h1, g, cap, h2, h3⟩ := h
  exact ⟨Nat.lt_of_lt_of_le h1 B.size, g, cap, (B.cell h1).trans h2, h3.below B⟩
theorem byNumber_c {w : World} {g n cap : Nat} {T : List (List Int)} (h : FxT w g T) :
    Calls Tryz.prog 42 #[.slice (some ⟨g, 0, none⟩) n cap] w fun e w' => ∃ b, e = .returned (.func (.func 70) #[] #[.pointer (some ⟨b, 0, none⟩)]) ∧ Byn w' b n T ∧ Below w.heap.size w w' := by
  have B1 : Below w.heap.size w (w.alloc (.cells #[.slice (some ⟨g, 0, none⟩) n cap] 50)) := (Below.refl _ w).alloc (Nat.le_refl _) _
  have F1 : Byn (w.alloc (.cells #[.slice (some ⟨g, 0, none⟩) n cap] 50)) w.heap.size n T :=
    ⟨by simp, g, cap, (cell_of_row _ w.heap.size 0 _ _ (0, 0) (heap_alloc_new w _)).trans rfl, h.below B1⟩
  clear h
  go_enter Tryz.func42, Tryz.ntmps42
  go_wp2_with fail
  exact bodyPost_ret (v := .func (.func 70) #[] #[.pointer (some ⟨w.heap.size, 0, none⟩)]) (by simp [results, Tryz.results42, go_sem]) rfl ⟨_, rfl, F1, B1⟩
/-- The rule of a kind. -/
def RuV (w : World) (v : Value) (k : Nat) : Prop :=
  (FxV w v (fixL k 0) ∧ k ≠ 13 ∧ k ≠ 14 ∧ k ≠ 19 ∧ k ≠ 25 ∧ k ≠ 20 ∧ k ≠ 21) ∨ (v = .func (.func 40) #[] #[] ∧ (k = 13 ∨ k = 14)) ∨ (v = .func (.func 41) #[] #[] ∧ k = 19) ∨ (v = .func (.func 45) #[] #[] ∧ k = 25)
    ∨ (∃ b, v = .func (.func 70) #[] #[.pointer (some ⟨b, 0, none⟩)] ∧ ((k = 20 ∧ Byn w b 11 callT) ∨ (k = 21 ∧ Byn w b 7 quantT)))
theorem RuV.below {w w' : World} {v : Value} {k : Nat} (h : RuV w v k) (B : Below w.heap.size w w') : RuV w' v k := by
  rcases h with ⟨h, h2⟩ | h | h | h | ⟨b, h, ⟨h1, h2⟩ | ⟨h1, h2⟩⟩
  · exact .inl ⟨h.below B, h2⟩
  · exact .inr (.inl h)
  · exact .inr (.inr (.inl h))
  · exact .inr (.inr (.inr (.inl h)))
  · exact .inr (.inr (.inr (.inr ⟨b, h, .inl ⟨h1, h2.below B⟩⟩)))
  · exact .inr (.inr (.inr (.inr ⟨b, h, .inr ⟨h1, h2.below B⟩⟩)))
/-- The table of all rules. -/
def RuT (w : World) (g : Nat) : Prop := g < w.heap.size ∧ ∀ (k : Nat), 1 ≤ k → k ≤ 25 → k ≠ 5 → ∃ v, w.cell? ⟨g, k, none⟩ = some v ∧ RuV w v k
theorem RuT.below {w w' : World} {g : Nat} (h : RuT w g) (B : Below w.heap.size w w') : RuT w' g := by
  refine ⟨Nat.lt_of_lt_of_le h.1 B.size, fun k h1 h2 h3 => ?_⟩
  obtain ⟨v, h4, h5⟩ := h.2 k h1 h2 h3
  exact ⟨v, (B.cell (p := ⟨g, k, none⟩) h.1).trans h4, h5.below B⟩
set_option maxRecDepth 100000 in
set_option maxHeartbeats 8000000 in
theorem rules_c (w : World) : Calls Tryz.prog 22 #[] w fun e w' => ∃ g, e = .returned (.slice (some ⟨g, 0, none⟩) 26 26) ∧ RuT w' g ∧ Below w.heap.size w w' := by
  go_enter Tryz.func22, Tryz.ntmps22
  go_wp2_with fail
  refine (fixed_n w [1] _ _ rfl).mono ?_
  rintro e w1 ⟨b1, rfl, F1, S1⟩
  go_wp2_with fail
  refine (fixed_n w1 [2] _ _ rfl).mono ?_
  rintro e w2 ⟨b2, rfl, F2, S2⟩
  go_wp2_with fail
  refine (fixed_n w2 [3] _ _ rfl).mono ?_
  rintro e w3 ⟨b3, rfl, F3, S3⟩
  go_wp2_with fail
  refine (fixed_n w3 [3] _ _ rfl).mono ?_
  rintro e w4 ⟨b4, rfl, F4, S4⟩
  go_wp2_with fail
  refine (fixed_n w4 [1, 1] _ _ rfl).mono ?_
  rintro e w5 ⟨b5, rfl, F5, S5⟩
  go_wp2_with fail
  refine (fixed_n w5 [2, 2] _ _ rfl).mono ?_
  rintro e w6 ⟨b6, rfl, F6, S6⟩
  go_wp2_with fail
  refine (fixed_n w6 [1, 1, 1] _ _ rfl).mono ?_
  rintro e w7 ⟨b7, rfl, F7, S7⟩
  go_wp2_with fail
  refine (fixed_n w7 [1, 1, 1] _ _ rfl).mono ?_
  rintro e w8 ⟨b8, rfl, F8, S8⟩
  go_wp2_with fail
  refine (fixed_n w8 [1, 1, 1] _ _ rfl).mono ?_
  rintro e w9 ⟨b9, rfl, F9, S9⟩
  go_wp2_with fail
  refine (fixed_n w9 [1, 1, 1] _ _ rfl).mono ?_
  rintro e w10 ⟨b10, rfl, F10, S10⟩
  go_wp2_with fail
  refine (fixed_n w10 [1, 1, 1] _ _ rfl).mono ?_
  rintro e w11 ⟨b11, rfl, F11, S11⟩
  go_wp2_with fail
  refine (fixed_n w11 [1, 1, 2] _ _ rfl).mono ?_
  rintro e w12 ⟨b12, rfl, F12, S12⟩
  go_wp2_with fail
  refine (fixed_n w12 [1, 1, 2] _ _ rfl).mono ?_
  rintro e w13 ⟨b13, rfl, F13, S13⟩
  go_wp2_with fail
  refine (fixed_n w13 [2, 2, 2] _ _ rfl).mono ?_
  rintro e w14 ⟨b14, rfl, F14, S14⟩
  go_wp2_with fail
  refine (fixed_n w14 [2, 2, 2] _ _ rfl).mono ?_
  rintro e w15 ⟨b15, rfl, F15, S15⟩
  go_wp2_with fail
  refine (calls_c w15).mono ?_
  rintro e w16 ⟨b16, rfl, F16, S16⟩
  go_wp2_with fail
  refine (byNumber_c F16).mono ?_
  rintro e w17 ⟨b17, rfl, F17, S17⟩
  go_wp2_with fail
  refine (quantifiers_c w17).mono ?_
  rintro e w18 ⟨b18, rfl, F18, S18⟩
  go_wp2_with fail
  refine (byNumber_c F18).mono ?_
  rintro e w19 ⟨b19, rfl, F19, S19⟩
  go_wp2_with fail
  refine (fixed_n w19 [4] _ _ rfl).mono ?_
  rintro e w20 ⟨b20, rfl, F20, S20⟩
  go_wp2_with fail
  refine (fixed_n w20 [4] _ _ rfl).mono ?_
  rintro e w21 ⟨b21, rfl, F21, S21⟩
  go_wp2_with fail
  refine (fixed_n w21 [3, 4] _ _ rfl).mono ?_
  rintro e w22 ⟨b22, rfl, F22, S22⟩
  go_wp2
  have E22 : Below w22.heap.size w22 (w22.alloc (.cells #[.nilFunc, .func (.func 69) #[] #[.pointer (some ⟨b1, 0, none⟩)], .func (.func 69) #[] #[.pointer (some ⟨b2, 0, none⟩)], .func (.func 69) #[] #[.pointer (some ⟨b3, 0, none⟩)], .func (.func 69) #[] #[.pointer (some ⟨b4, 0, none⟩)], .nilFunc, .func (.func 69) #[] #[.pointer (some ⟨b5, 0, none⟩)], .func (.func 69) #[] #[.pointer (some ⟨b6, 0, none⟩)], .func (.func 69) #[] #[.pointer (some ⟨b7, 0, none⟩)], .func (.func 69) #[] #[.pointer (some ⟨b8, 0, none⟩)], .func (.func 69) #[] #[.pointer (some ⟨b9, 0, none⟩)], .func (.func 69) #[] #[.pointer (some ⟨b10, 0, none⟩)], .func (.func 69) #[] #[.pointer (some ⟨b11, 0, none⟩)], .func (.func 40) #[] #[], .func (.func 40) #[] #[], .func (.func 69) #[] #[.pointer (some ⟨b12, 0, none⟩)], .func (.func 69) #[] #[.pointer (some ⟨b13, 0, none⟩)], .func (.func 69) #[] #[.pointer (some ⟨b14, 0, none⟩)], .func (.func 69) #[] #[.pointer (some ⟨b15, 0, none⟩)], .func (.func 41) #[] #[], .func (.func 70) #[] #[.pointer (some ⟨b17, 0, none⟩)], .func (.func 70) #[] #[.pointer (some ⟨b19, 0, none⟩)], .func (.func 69) #[] #[.pointer (some ⟨b20, 0, none⟩)], .func (.func 69) #[] #[.pointer (some ⟨b21, 0, none⟩)], .func (.func 69) #[] #[.pointer (some ⟨b22, 0, none⟩)], .func (.func 45) #[] #[]] 81)) := (Below.refl _ w22).alloc (Nat.le_refl _) _
  have E21 := S22.trans (E22.mono S22.size)
  have E20 := S21.trans (E21.mono S21.size)
  have E19 := S20.trans (E20.mono S20.size)
  have E18 := S19.trans (E19.mono S19.size)
  have E17 := S18.trans (E18.mono S18.size)
  have E16 := S17.trans (E17.mono S17.size)
  have E15 := S16.trans (E16.mono S16.size)
  have E14 := S15.trans (E15.mono S15.size)
  have E13 := S14.trans (E14.mono S14.size)
  have E12 := S13.trans (E13.mono S13.size)
  have E11 := S12.trans (E12.mono S12.size)
  have E10 := S11.trans (E11.mono S11.size)
  have E9 := S10.trans (E10.mono S10.size)
  have E8 := S9.trans (E9.mono S9.size)
  have E7 := S8.trans (E8.mono S8.size)
  have E6 := S7.trans (E7.mono S7.size)
  have E5 := S6.trans (E6.mono S6.size)
  have E4 := S5.trans (E5.mono S5.size)
  have E3 := S4.trans (E4.mono S4.size)
  have E2 := S3.trans (E3.mono S3.size)
  have E1 := S2.trans (E2.mono S2.size)
  have E0 := S1.trans (E1.mono S1.size)
  have hb : (w22.alloc (.cells #[.nilFunc, .func (.func 69) #[] #[.pointer (some ⟨b1, 0, none⟩)], .func (.func 69) #[] #[.pointer (some ⟨b2, 0, none⟩)], .func (.func 69) #[] #[.pointer (some ⟨b3, 0, none⟩)], .func (.func 69) #[] #[.pointer (some ⟨b4, 0, none⟩)], .nilFunc, .func (.func 69) #[] #[.pointer (some ⟨b5, 0, none⟩)], .func (.func 69) #[] #[.pointer (some ⟨b6, 0, none⟩)], .func (.func 69) #[] #[.pointer (some ⟨b7, 0, none⟩)], .func (.func 69) #[] #[.pointer (some ⟨b8, 0, none⟩)], .func (.func 69) #[] #[.pointer (some ⟨b9, 0, none⟩)], .func (.func 69) #[] #[.pointer (some ⟨b10, 0, none⟩)], .func (.func 69) #[] #[.pointer (some ⟨b11, 0, none⟩)], .func (.func 40) #[] #[], .func (.func 40) #[] #[], .func (.func 69) #[] #[.pointer (some ⟨b12, 0, none⟩)], .func (.func 69) #[] #[.pointer (some ⟨b13, 0, none⟩)], .func (.func 69) #[] #[.pointer (some ⟨b14, 0, none⟩)], .func (.func 69) #[] #[.pointer (some ⟨b15, 0, none⟩)], .func (.func 41) #[] #[], .func (.func 70) #[] #[.pointer (some ⟨b17, 0, none⟩)], .func (.func 70) #[] #[.pointer (some ⟨b19, 0, none⟩)], .func (.func 69) #[] #[.pointer (some ⟨b20, 0, none⟩)], .func (.func 69) #[] #[.pointer (some ⟨b21, 0, none⟩)], .func (.func 69) #[] #[.pointer (some ⟨b22, 0, none⟩)], .func (.func 45) #[] #[]] 81)).heap[w22.heap.size]? = some (.cells #[.nilFunc, .func (.func 69) #[] #[.pointer (some ⟨b1, 0, none⟩)], .func (.func 69) #[] #[.pointer (some ⟨b2, 0, none⟩)], .func (.func 69) #[] #[.pointer (some ⟨b3, 0, none⟩)], .func (.func 69) #[] #[.pointer (some ⟨b4, 0, none⟩)], .nilFunc, .func (.func 69) #[] #[.pointer (some ⟨b5, 0, none⟩)], .func (.func 69) #[] #[.pointer (some ⟨b6, 0, none⟩)], .func (.func 69) #[] #[.pointer (some ⟨b7, 0, none⟩)], .func (.func 69) #[] #[.pointer (some ⟨b8, 0, none⟩)], .func (.func 69) #[] #[.pointer (some ⟨b9, 0, none⟩)], .func (.func 69) #[] #[.pointer (some ⟨b10, 0, none⟩)], .func (.func 69) #[] #[.pointer (some ⟨b11, 0, none⟩)], .func (.func 40) #[] #[], .func (.func 40) #[] #[], .func (.func 69) #[] #[.pointer (some ⟨b12, 0, none⟩)], .func (.func 69) #[] #[.pointer (some ⟨b13, 0, none⟩)], .func (.func 69) #[] #[.pointer (some ⟨b14, 0, none⟩)], .func (.func 69) #[] #[.pointer (some ⟨b15, 0, none⟩)], .func (.func 41) #[] #[], .func (.func 70) #[] #[.pointer (some ⟨b17, 0, none⟩)], .func (.func 70) #[] #[.pointer (some ⟨b19, 0, none⟩)], .func (.func 69) #[] #[.pointer (some ⟨b20, 0, none⟩)], .func (.func 69) #[] #[.pointer (some ⟨b21, 0, none⟩)], .func (.func 69) #[] #[.pointer (some ⟨b22, 0, none⟩)], .func (.func 45) #[] #[]] 81 (0, 0)) := heap_alloc_new w22 _
  have P : RuT (w22.alloc (.cells #[.nilFunc, .func (.func 69) #[] #[.pointer (some ⟨b1, 0, none⟩)], .func (.func 69) #[] #[.pointer (some ⟨b2, 0, none⟩)], .func (.func 69) #[] #[.pointer (some ⟨b3, 0, none⟩)], .func (.func 69) #[] #[.pointer (some ⟨b4, 0, none⟩)], .nilFunc, .func (.func 69) #[] #[.pointer (some ⟨b5, 0, none⟩)], .func (.func 69) #[] #[.pointer (some ⟨b6, 0, none⟩)], .func (.func 69) #[] #[.pointer (some ⟨b7, 0, none⟩)], .func (.func 69) #[] #[.pointer (some ⟨b8, 0, none⟩)], .func (.func 69) #[] #[.pointer (some ⟨b9, 0, none⟩)], .func (.func 69) #[] #[.pointer (some ⟨b10, 0, none⟩)], .func (.func 69) #[] #[.pointer (some ⟨b11, 0, none⟩)], .func (.func 40) #[] #[], .func (.func 40) #[] #[], .func (.func 69) #[] #[.pointer (some ⟨b12, 0, none⟩)], .func (.func 69) #[] #[.pointer (some ⟨b13, 0, none⟩)], .func (.func 69) #[] #[.pointer (some ⟨b14, 0, none⟩)], .func (.func 69) #[] #[.pointer (some ⟨b15, 0, none⟩)], .func (.func 41) #[] #[], .func (.func 70) #[] #[.pointer (some ⟨b17, 0, none⟩)], .func (.func 70) #[] #[.pointer (some ⟨b19, 0, none⟩)], .func (.func 69) #[] #[.pointer (some ⟨b20, 0, none⟩)], .func (.func 69) #[] #[.pointer (some ⟨b21, 0, none⟩)], .func (.func 69) #[] #[.pointer (some ⟨b22, 0, none⟩)], .func (.func 45) #[] #[]] 81)) w22.heap.size := by
   refine ⟨by simp, ?_⟩
   intro j h1 h2 h3
   match j, h1, h2, h3 with
   | 0, h1, h2, h3 => omega
   | 5, h1, h2, h3 => omega
   | 1, h1, h2, h3 => exact ⟨_, (cell_of_row _ w22.heap.size 1 _ _ (0, 0) hb).trans rfl, .inl ⟨⟨b1, rfl, F1.below E1⟩, by decide⟩⟩
   | 2, h1, h2, h3 => exact ⟨_, (cell_of_row _ w22.heap.size 2 _ _ (0, 0) hb).trans rfl, .inl ⟨⟨b2, rfl, F2.below E2⟩, by decide⟩⟩
   | 3, h1, h2, h3 => exact ⟨_, (cell_of_row _ w22.heap.size 3 _ _ (0, 0) hb).trans rfl, .inl ⟨⟨b3, rfl, F3.below E3⟩, by decide⟩⟩
   | 4, h1, h2, h3 => exact ⟨_, (cell_of_row _ w22.heap.size 4 _ _ (0, 0) hb).trans rfl, .inl ⟨⟨b4, rfl, F4.below E4⟩, by decide⟩⟩
   | 6, h1, h2, h3 => exact ⟨_, (cell_of_row _ w22.heap.size 6 _ _ (0, 0) hb).trans rfl, .inl ⟨⟨b5, rfl, F5.below E5⟩, by decide⟩⟩
   | 7, h1, h2, h3 => exact ⟨_, (cell_of_row _ w22.heap.size 7 _ _ (0, 0) hb).trans rfl, .inl ⟨⟨b6, rfl, F6.below E6⟩, by decide⟩⟩
   | 8, h1, h2, h3 => exact ⟨_, (cell_of_row _ w22.heap.size 8 _ _ (0, 0) hb).trans rfl, .inl ⟨⟨b7, rfl, F7.below E7⟩, by decide⟩⟩
   | 9, h1, h2, h3 => exact ⟨_, (cell_of_row _ w22.heap.size 9 _ _ (0, 0) hb).trans rfl, .inl ⟨⟨b8, rfl, F8.below E8⟩, by decide⟩⟩
   | 10, h1, h2, h3 => exact ⟨_, (cell_of_row _ w22.heap.size 10 _ _ (0, 0) hb).trans rfl, .inl ⟨⟨b9, rfl, F9.below E9⟩, by decide⟩⟩
   | 11, h1, h2, h3 => exact ⟨_, (cell_of_row _ w22.heap.size 11 _ _ (0, 0) hb).trans rfl, .inl ⟨⟨b10, rfl, F10.below E10⟩, by decide⟩⟩
   | 12, h1, h2, h3 => exact ⟨_, (cell_of_row _ w22.heap.size 12 _ _ (0, 0) hb).trans rfl, .inl ⟨⟨b11, rfl, F11.below E11⟩, by decide⟩⟩
   | 13, h1, h2, h3 => exact ⟨_, (cell_of_row _ w22.heap.size 13 _ _ (0, 0) hb).trans rfl, .inr (.inl ⟨rfl, by omega⟩)⟩
   | 14, h1, h2, h3 => exact ⟨_, (cell_of_row _ w22.heap.size 14 _ _ (0, 0) hb).trans rfl, .inr (.inl ⟨rfl, by omega⟩)⟩
   | 15, h1, h2, h3 => exact ⟨_, (cell_of_row _ w22.heap.size 15 _ _ (0, 0) hb).trans rfl, .inl ⟨⟨b12, rfl, F12.below E12⟩, by decide⟩⟩
   | 16, h1, h2, h3 => exact ⟨_, (cell_of_row _ w22.heap.size 16 _ _ (0, 0) hb).trans rfl, .inl ⟨⟨b13, rfl, F13.below E13⟩, by decide⟩⟩
   | 17, h1, h2, h3 => exact ⟨_, (cell_of_row _ w22.heap.size 17 _ _ (0, 0) hb).trans rfl, .inl ⟨⟨b14, rfl, F14.below E14⟩, by decide⟩⟩
   | 18, h1, h2, h3 => exact ⟨_, (cell_of_row _ w22.heap.size 18 _ _ (0, 0) hb).trans rfl, .inl ⟨⟨b15, rfl, F15.below E15⟩, by decide⟩⟩
   | 19, h1, h2, h3 => exact ⟨_, (cell_of_row _ w22.heap.size 19 _ _ (0, 0) hb).trans rfl, .inr (.inr (.inl ⟨rfl, rfl⟩))⟩
   | 20, h1, h2, h3 => exact ⟨_, (cell_of_row _ w22.heap.size 20 _ _ (0, 0) hb).trans rfl, .inr (.inr (.inr (.inr ⟨b17, rfl, .inl ⟨rfl, F17.below E17⟩⟩)))⟩
   | 21, h1, h2, h3 => exact ⟨_, (cell_of_row _ w22.heap.size 21 _ _ (0, 0) hb).trans rfl, .inr (.inr (.inr (.inr ⟨b19, rfl, .inr ⟨rfl, F19.below E19⟩⟩)))⟩
   | 22, h1, h2, h3 => exact ⟨_, (cell_of_row _ w22.heap.size 22 _ _ (0, 0) hb).trans rfl, .inl ⟨⟨b20, rfl, F20.below E20⟩, by decide⟩⟩
   | 23, h1, h2, h3 => exact ⟨_, (cell_of_row _ w22.heap.size 23 _ _ (0, 0) hb).trans rfl, .inl ⟨⟨b21, rfl, F21.below E21⟩, by decide⟩⟩
   | 24, h1, h2, h3 => exact ⟨_, (cell_of_row _ w22.heap.size 24 _ _ (0, 0) hb).trans rfl, .inl ⟨⟨b22, rfl, F22.below E22⟩, by decide⟩⟩
   | 25, h1, h2, h3 => exact ⟨_, (cell_of_row _ w22.heap.size 25 _ _ (0, 0) hb).trans rfl, .inr (.inr (.inr (.inl ⟨rfl, rfl⟩)))⟩
   | j + 26, h1, h2, h3 => omega
  exact bodyPost_ret (v := .slice (some ⟨w22.heap.size, 0, none⟩) 26 26) (by simp [results, Tryz.results22, go_sem]) rfl ⟨w22.heap.size, rfl, P, E0⟩
end Go.Proofs.YtojleoionpnjpaaGreatDoor
namespace Go.Proofs.YtojleoionpnjpaaGreatDoor
open Go.ChangeShapes Go.WideShapes Go.ChangeAt Go.RowKit
set_option linter.unusedVariables false
set_option linter.unusedSimpArgs false

/-- Names in a slice. -/
def Nms (w : World) (v : Value) (b : List (List UInt8)) : Prop :=
  ∃ ao cap, v = .slice ao b.length cap ∧ b.length ≤ cap ∧ ((b = [] ∧ ao = none) ∨ ∃ g, ao = some ⟨g, 0, none⟩ ∧ g < w.heap.size ∧ 0 < b.length ∧ ∀ (j : Nat) (t : List UInt8), b[j]? = some t → w.cell? ⟨g, j, none⟩ = some (stv t))
theorem Nms.below {w w' : World} {v : Value} {b : List (List UInt8)} (h : Nms w v b) (B : Below w.heap.size w w') : Nms w' v b := by
  obtain ⟨ao, cap, rfl, hc, h1 | ⟨g, h1, h2, h0, h3⟩⟩ := h
  · exact ⟨ao, cap, rfl, hc, .inl h1⟩
  · exact ⟨ao, cap, rfl, hc, .inr ⟨g, h1, Nat.lt_of_lt_of_le h2 B.size, h0, fun j t hj => (B.cell (p := ⟨g, j, none⟩) h2).trans (h3 j t hj)⟩⟩
theorem Nms.nil (w : World) : Nms w (.slice none 0 0) [] := ⟨none, 0, rfl, Nat.le_refl _, .inl ⟨rfl, rfl⟩⟩
theorem infoStrT : (Tryz.prog.info? 9).map (fun i => (i.zero, i.size, i.bytes)) = some (some (.string ⟨#[]⟩), 1, 16) := by kernel_rfl
set_option maxRecDepth 100000 in
theorem indexS {w : World} {v : Value} {b : List (List UInt8)} (h : Nms w v b) (t : List UInt8) (hl : b.length ≤ 100000) :
    Calls Tryz.prog 71 #[v, stv t] w fun e w' => ∃ r : Int, e = .returned (.int .i64 r) ∧ decide (0 ≤ r) = decide (t ∈ b) ∧ -1 ≤ r ∧ r ≤ 100000 ∧ w' = w := by
  obtain ⟨ao, cap, rfl, hcap, hp⟩ := h
  go_enter Tryz.func71, Tryz.ntmps71
  go_wp2
  go_loopw [8] (fun v wr => ∃ k : Nat, k ≤ b.length ∧ v = .int .i64 (k : Nat) ∧ Hid (∀ j, j < k → b[j]? ≠ some t) ∧ wr = w) (fun v _ => b.length - (intOf v).toNat)
  case atStart => exact ⟨0, by omega, by go_num, fun j hj => absurd hj (Nat.not_lt_zero _), rfl⟩
  case round =>
    obtain ⟨k, hk, rfl, hn, rfl⟩ := hrel
    by_cases hlt : k < b.length
    · have hx : b[k]? = some b[k] := List.getElem?_eq_getElem hlt
      rcases hp with ⟨rfl, -⟩ | ⟨g, rfl, hg, -, hcell⟩
      · simp at hlt
      have c1 := hcell k _ hx
      generalize b[k] = x at c1 hx
      have hkI : (k : Int) < (b.length : Int) := by omega
      have HX : Hid (b[k]? = some x) := hx
      clear hx hcell
      by_cases he : t = x
      · subst he
        have hbe : (t == t) = true := by simp
        have FIN : Hid (decide (0 ≤ (k : Int)) = decide (t ∈ b)) := by
          have : t ∈ b := List.mem_of_getElem? HX.out
          show decide _ = decide _
          rw [decide_eq_true (by omega), decide_eq_true this]
        clear hn HX
        go_wp2
        go_ret
        exact ⟨k, rfl, FIN.out, by omega, by omega, rfl⟩
      · have hbe : (t == x) = false := by simpa using he
        have hn2 : Hid (∀ j, j < k + 1 → b[j]? ≠ some t) := by
          intro j hj
          rcases Nat.lt_succ_iff_lt_or_eq.1 hj with h1 | rfl
          · exact hn.out j h1
          · rw [HX.out]
            intro h2
            injection h2 with h2
            exact he h2.symm
        clear hn HX he
        go_wp2
        go_roundw
        case rel => (try ((repeat apply Exists.intro); refine ⟨?_, rfl⟩)); exact ⟨k + 1, by omega, by go_num, hn2, by trivial⟩
        case measure => simp [intOf]; omega
    · obtain rfl : k = b.length := by omega
      have FIN : Hid (decide (0 ≤ (-1 : Int)) = decide (t ∈ b)) := by
        have : ¬ t ∈ b := by
          intro h1
          obtain ⟨j, hj, h2⟩ := List.mem_iff_getElem.1 h1
          exact hn.out j hj (by rw [List.getElem?_eq_getElem hj, h2])
        show decide _ = decide _
        rw [decide_eq_false this]
        rfl
      clear hn hp
      go_wp2
      go_ret
      exact ⟨-1, rfl, FIN.out, by omega, by omega, rfl⟩
theorem containsS {w : World} {v : Value} {b : List (List UInt8)} (h : Nms w v b) (t : List UInt8) (hl : b.length ≤ 100000) :
    Calls Tryz.prog 46 #[v, stv t] w fun e w' => e = .returned (.bool (decide (t ∈ b))) ∧ w' = w := by
  have c1 := indexS h t hl
  obtain ⟨ao, cap, rfl, -, -⟩ := h
  go_enter Tryz.func46, Tryz.ntmps46
  go_wp2_with fail
  refine c1.mono ?_
  rintro x w1 ⟨r, rfl, h1, h2, h3, rfl⟩
  have FIN : Hid (decide (0 ≤ r) = decide (t ∈ b)) := h1
  clear h1 c1
  go_wp2
  go_ret
  exact ⟨by rw [← FIN.out]; rfl, rfl⟩
end Go.Proofs.YtojleoionpnjpaaGreatDoor
