/- Which parts of a right tree have which rules: plain. No program. -/
import Derived.Test.YtafnlhnenmpfoaaDoorSzI
namespace Go.Proofs.YtafnlhnenmpfoaaDoor
set_option linter.unusedVariables false
set_option linter.unusedSimpArgs false

/-- Kinds that are fixed: those of the kids, and behind them the part's own; [] where they are not. -/
def fixL (k n : Int) : List Int :=
  if k = 1 then [1] else if k = 2 then [2] else if k = 3 ∨ k = 4 then [3] else if k = 6 then [1, 1] else if k = 7 then [2, 2]
  else if 8 ≤ k ∧ k ≤ 12 then [1, 1, 1] else if k = 15 ∨ k = 16 then [1, 1, 2] else if k = 17 ∨ k = 18 then [2, 2, 2]
  else if k = 22 ∨ k = 23 then [4] else if k = 24 then [3, 4]
  else if k = 20 then (if n = 1 ∨ n = 2 then [3, 3, 2] else if n = 3 then [3, 3, 1] else if n = 10 then [3, 3] else [3, 1])
  else if k = 21 then (if n = 1 ∨ n = 2 then [4, 2, 2] else if n = 3 then [4, 2, 1] else [4, 1, 1])
  else []
/-- What the next kid must be, or what the part is: so many kids are done, of these kinds. -/
def ruleT (k n : Int) (len : Nat) (done : List Int) : Int :=
  if k = 13 ∨ k = 14 then (match done with | [] => 0 | [a] => a | _ => 2)
  else if k = 19 then (match done with | [] => 2 | [_] => 0 | _ :: b :: _ => b)
  else if k = 25 then (if done.length < len then 3 else 4)
  else (fixL k n)[done.length]?.getD 0
/-- What a kid of so much comes to, where a kind may be asked of it. -/
def mustT (m : Int) (a : Int) (r : Sum (Nat × Int) Int) : Sum (Nat × Int) Int :=
  match r with
  | .inl e => .inl e
  | .inr is => if m ≠ 0 ∧ is ≠ m then .inl (131, a) else .inr is
/-- The kids of a part, one by one: the first thing that is wrong and its place, or their kinds. -/
def chkFs : Fs → Int → Int → List UInt8 → Nat → List (List UInt8) → Nat → List Int → Sum (Nat × Int) (List Int)
  | ⟨none⟩, _, _, _, _, _, _, done => .inr done
  | ⟨some ⟨kk, kn, km, ka, kks, kr⟩⟩, k, n, nm, len, bound, i, done =>
    match mustT (ruleT k n len done) ka (if kk = 4 ∧ ¬ km ∈ (if k = 21 ∧ i ≠ 0 then bound ++ [nm] else bound) then .inl (130, ka) else
      match chkFs kks kk kn km kks.len (if k = 21 ∧ i ≠ 0 then bound ++ [nm] else bound) 0 [] with
      | .inl e => .inl e
      | .inr d => .inr (ruleT kk kn kks.len d)) with
    | .inl e => .inl e
    | .inr is => chkFs kr k n nm len bound (i + 1) (done ++ [is])
def chkE (e : Ex) (bound : List (List UInt8)) : Sum (Nat × Int) Int :=
  if e.k = 4 ∧ ¬ e.nm ∈ bound then .inl (130, e.a) else
    match chkFs e.kids e.k e.n e.nm e.kids.len bound 0 [] with
    | .inl x => .inl x
    | .inr d => .inr (ruleT e.k e.n e.kids.len d)
/-- What Check answers: kind, error, place. -/
def typA (e : Ex) : Int × Nat × Int :=
  match writA e with
  | none => (0, 122, 0)
  | some _ =>
    match chkE e [] with
    | .inl (er, a) => (0, er, a)
    | .inr k => (k, 0, 0)
/-- All places turned. -/
def Fs.pl (g : Int → Int) : Fs → Fs
  | ⟨none⟩ => .nil
  | ⟨some ⟨k, n, nm, a, ks, r⟩⟩ => .cons k n nm (g a) (Fs.pl g ks) (Fs.pl g r)
def Ex.pl (g : Int → Int) (e : Ex) : Ex := ⟨e.k, e.n, e.nm, g e.a, e.kids.pl g⟩
theorem Fs.len_pl (g : Int → Int) : ∀ (f : Fs), (f.pl g).len = f.len
  | ⟨none⟩ => rfl
  | ⟨some ⟨k, n, nm, a, ks, r⟩⟩ => by simp only [Fs.pl, Fs.len]; rw [Fs.len_pl g r]
def turnE (g : Int → Int) {α : Type} : Sum (Nat × Int) α → Sum (Nat × Int) α
  | .inl (er, a) => .inl (er, g a)
  | .inr x => .inr x
theorem chkFs_pl (g : Int → Int) : ∀ (f : Fs) (k n : Int) (nm : List UInt8) (len : Nat) (bound : List (List UInt8)) (i : Nat) (done : List Int), chkFs (f.pl g) k n nm len bound i done = turnE g (chkFs f k n nm len bound i done)
  | ⟨none⟩, k, n, nm, len, bound, i, done => rfl
  | ⟨some ⟨kk, kn, km, ka, kks, kr⟩⟩, k, n, nm, len, bound, i, done => by
    have h1 := chkFs_pl g kks kk kn km kks.len (if k = 21 ∧ i ≠ 0 then bound ++ [nm] else bound) 0 []
    simp only [Fs.pl, chkFs, Fs.len_pl]
    rw [h1]
    by_cases hv : kk = 4 ∧ ¬ km ∈ (if k = 21 ∧ i ≠ 0 then bound ++ [nm] else bound)
    · rw [if_pos hv, if_pos hv]
      rfl
    · rw [if_neg hv, if_neg hv]
      cases chkFs kks kk kn km kks.len (if k = 21 ∧ i ≠ 0 then bound ++ [nm] else bound) 0 [] with
      | inl x => obtain ⟨er, a⟩ := x; rfl
      | inr d =>
        simp only [turnE, mustT]
        by_cases hm : ruleT k n len done ≠ 0 ∧ ruleT kk kn kks.len d ≠ ruleT k n len done
        · rw [if_pos hm, if_pos hm]
        · rw [if_neg hm, if_neg hm]
          exact chkFs_pl g kr k n nm len bound (i + 1) _
theorem chkE_pl (g : Int → Int) (e : Ex) (bound : List (List UInt8)) : chkE (e.pl g) bound = turnE g (chkE e bound) := by
  unfold chkE
  simp only [Ex.pl, Fs.len_pl, chkFs_pl]
  by_cases hv : e.k = 4 ∧ ¬ e.nm ∈ bound
  · rw [if_pos hv, if_pos hv]
    rfl
  · rw [if_neg hv, if_neg hv]
    cases chkFs e.kids e.k e.n e.nm e.kids.len bound 0 [] with
    | inl x => obtain ⟨er, a⟩ := x; rfl
    | inr d => rfl
theorem wFs_pl (g : Int → Int) : ∀ (f : Fs) (s : Sep) (i : Nat) (u : St), wFs (f.pl g) s i u = wFs f s i u
  | ⟨none⟩, s, i, u => rfl
  | ⟨some ⟨k, n, nm, a, ks, r⟩⟩, s, i, u => by
    simp only [Fs.pl, wFs]
    rw [wFs_pl g r, show (fun g' s' => wFs (ks.pl g) g' 0 s') = (fun g' s' => wFs ks g' 0 s') from funext fun g' => funext fun s' => wFs_pl g ks g' 0 s']
theorem hFs_pl (g : Int → Int) : ∀ (f : Fs) (b : Bool) (c : Nat), hFs (f.pl g) b c = hFs f b c
  | ⟨none⟩, b, c => rfl
  | ⟨some ⟨k, n, nm, a, ks, r⟩⟩, b, c => by
    simp only [Fs.pl, hFs, Fs.len_pl]
    rw [hFs_pl g ks]
    split
    · rfl
    · split
      · rfl
      · split
        · cases hFs ks (k == 21) (c + 1) with
          | none => rfl
          | some c' => exact hFs_pl g r false c'
        · rfl
theorem writA_pl (g : Int → Int) (e : Ex) : writA (e.pl g) = writA e := by
  have h1 : hE (e.pl g) 0 = hE e 0 := by unfold hE; simp only [Ex.pl, Fs.len_pl, hFs_pl]
  have h2 : wEx (e.pl g) 0 s0 = wEx e 0 s0 := by
    unfold wEx
    simp only [Ex.pl]
    rw [show (fun g' s' => wFs (e.kids.pl g) g' 0 s') = (fun g' s' => wFs e.kids g' 0 s') from funext fun g' => funext fun s' => wFs_pl g e.kids g' 0 s']
  unfold writA
  rw [h1, h2]
  rfl
theorem chkFs_er : ∀ (f : Fs) (k n : Int) (nm : List UInt8) (len : Nat) (bound : List (List UInt8)) (i : Nat) (done : List Int) (er : Nat) (a : Int), chkFs f k n nm len bound i done = .inl (er, a) → er = 130 ∨ er = 131
  | ⟨none⟩, k, n, nm, len, bound, i, done, er, a, h => by simp only [chkFs] at h; cases h
  | ⟨some ⟨kk, kn, km, ka, kks, kr⟩⟩, k, n, nm, len, bound, i, done, er, a, h => by
    simp only [chkFs] at h
    by_cases hv : kk = 4 ∧ ¬ km ∈ (if k = 21 ∧ i ≠ 0 then bound ++ [nm] else bound)
    · rw [if_pos hv] at h
      simp only [mustT, Sum.inl.injEq, Prod.mk.injEq] at h
      omega
    · rw [if_neg hv] at h
      cases hc : chkFs kks kk kn km kks.len (if k = 21 ∧ i ≠ 0 then bound ++ [nm] else bound) 0 [] with
      | inl x =>
        obtain ⟨er2, a2⟩ := x
        rw [hc] at h
        simp only [mustT, Sum.inl.injEq, Prod.mk.injEq] at h
        have := chkFs_er kks _ _ _ _ _ _ _ er2 a2 hc
        omega
      | inr d =>
        rw [hc] at h
        simp only [mustT] at h
        by_cases hm : ruleT k n len done ≠ 0 ∧ ruleT kk kn kks.len d ≠ ruleT k n len done
        · rw [if_pos hm] at h
          simp only [Sum.inl.injEq, Prod.mk.injEq] at h
          omega
        · rw [if_neg hm] at h
          exact chkFs_er kr _ _ _ _ _ _ _ er a h
theorem chkE_er {e : Ex} {bound : List (List UInt8)} {er : Nat} {a : Int} (h : chkE e bound = .inl (er, a)) : er = 130 ∨ er = 131 := by
  unfold chkE at h
  by_cases hv : e.k = 4 ∧ ¬ e.nm ∈ bound
  · rw [if_pos hv] at h
    simp only [Sum.inl.injEq, Prod.mk.injEq] at h
    omega
  · rw [if_neg hv] at h
    cases hc : chkFs e.kids e.k e.n e.nm e.kids.len bound 0 [] with
    | inl x =>
      obtain ⟨er2, a2⟩ := x
      rw [hc] at h
      simp only [Sum.inl.injEq, Prod.mk.injEq] at h
      have := chkFs_er _ _ _ _ _ _ _ _ er2 a2 hc
      omega
    | inr d => rw [hc] at h; cases h
/-- Places do not matter, but for the one that is told. -/
theorem typA_pl (g : Int → Int) (e : Ex) : typA (e.pl g) = (match typA e with | (k, er, a) => (k, er, if er = 0 ∨ er = 122 then a else g a)) := by
  unfold typA
  rw [writA_pl]
  cases writA e with
  | none => rfl
  | some t =>
    simp only
    rw [chkE_pl]
    cases h : chkE e [] with
    | inl x =>
      obtain ⟨er, a⟩ := x
      have her : er = 130 ∨ er = 131 := chkE_er h
      simp only [turnE]
      rw [if_neg (by omega)]
    | inr k => rfl
end Go.Proofs.YtafnlhnenmpfoaaDoor
namespace Go.Proofs.YtafnlhnenmpfoaaDoor
set_option linter.unusedVariables false
set_option linter.unusedSimpArgs false

def endT (k n : Int) (len : Nat) : Sum (Nat × Int) (List Int) → Sum (Nat × Int) Int
  | .inl x => .inl x
  | .inr d => .inr (ruleT k n len d)
end Go.Proofs.YtafnlhnenmpfoaaDoor
namespace Go.Proofs.YtafnlhnenmpfoaaDoor
set_option linter.unusedVariables false
set_option linter.unusedSimpArgs false

/-- The rule of a part may be asked. -/
def okR (k n : Int) (len : Nat) : Prop :=
  (k = 13 ∨ k = 14 ∨ k = 19 ∨ k = 25) ∨ (k = 20 ∧ (1 ≤ n ∧ n ≤ 10) ∧ (fixL 20 n).length = len + 1) ∨ (k = 21 ∧ (1 ≤ n ∧ n ≤ 6) ∧ (fixL 21 n).length = len + 1)
    ∨ ((1 ≤ k ∧ k ≤ 24 ∧ k ≠ 5 ∧ k ≠ 20 ∧ k ≠ 21 ∧ k ≠ 13 ∧ k ≠ 14 ∧ k ≠ 19) ∧ (fixL k 0).length = len + 1)
theorem callT_rng (n : Int) : (callOf n).isSome = decide (1 ≤ n ∧ n ≤ 10) := by
  by_cases h : 1 ≤ n ∧ n ≤ 10
  · have h2 : n = 1 ∨ n = 2 ∨ n = 3 ∨ n = 4 ∨ n = 5 ∨ n = 6 ∨ n = 7 ∨ n = 8 ∨ n = 9 ∨ n = 10 := by omega
    rcases h2 with rfl | rfl | rfl | rfl | rfl | rfl | rfl | rfl | rfl | rfl <;> rfl
  · rw [decide_eq_false h]
    cases hc : callOf n with
    | none => rfl
    | some x =>
      have h1 := List.find?_some hc
      have h2 := List.mem_of_find?_eq_some hc
      simp only [callsL, List.mem_cons, List.not_mem_nil, or_false] at h2
      simp only [beq_iff_eq] at h1
      exfalso
      rcases h2 with rfl | rfl | rfl | rfl | rfl | rfl | rfl | rfl | rfl | rfl <;> simp only at h1 <;> omega
theorem quantT_rng (n : Int) : (quantOf n).isSome = decide (1 ≤ n ∧ n ≤ 6) := by
  by_cases h : 1 ≤ n ∧ n ≤ 6
  · have h2 : n = 1 ∨ n = 2 ∨ n = 3 ∨ n = 4 ∨ n = 5 ∨ n = 6 := by omega
    rcases h2 with rfl | rfl | rfl | rfl | rfl | rfl <;> rfl
  · rw [decide_eq_false h]
    cases hc : quantOf n with
    | none => rfl
    | some x =>
      have h1 := List.find?_some hc
      have h2 := List.mem_of_find?_eq_some hc
      simp only [quantsL, List.mem_cons, List.not_mem_nil, or_false] at h2
      simp only [beq_iff_eq] at h1
      exfalso
      rcases h2 with rfl | rfl | rfl | rfl | rfl | rfl <;> simp only at h1 <;> omega
theorem opT_rng {k : Int} (h : (opOf k).isSome = true) : 8 ≤ k ∧ k ≤ 18 := by
  cases hc : opOf k with
  | none => rw [hc] at h; cases h
  | some x =>
    have h1 := List.find?_some hc
    have h2 := List.mem_of_find?_eq_some hc
    simp only [opsL, List.mem_cons, List.not_mem_nil, or_false] at h2
    simp only [beq_iff_eq] at h1
    rcases h2 with rfl | rfl | rfl | rfl | rfl | rfl | rfl | rfl | rfl | rfl | rfl <;> simp only at h1 <;> omega
theorem okR_of {k n : Int} {nm : List UInt8} {m : Nat} (h : okP k n nm m) : okR k n m := by
  obtain ⟨h1, -, h2, -, -, -⟩ := h
  unfold kidB at h2
  unfold numB at h1
  by_cases a0 : k = 1 ∨ k = 2 ∨ k = 3 ∨ k = 4 ∨ k = 22 ∨ k = 23
  · have e1 : (k == 1 || k == 2 || k == 3 || k == 4 || k == 22 || k == 23) = true := by rcases a0 with rfl | rfl | rfl | rfl | rfl | rfl <;> rfl
    rw [e1, if_pos rfl] at h2
    have : m = 0 := by simpa using h2
    subst this
    refine .inr (.inr (.inr ⟨by omega, ?_⟩))
    rcases a0 with rfl | rfl | rfl | rfl | rfl | rfl <;> rfl
  by_cases a1 : k = 6 ∨ k = 7 ∨ k = 24
  · have : m = 1 := by rcases a1 with rfl | rfl | rfl <;> (simp at h2; omega)
    subst this
    refine .inr (.inr (.inr ⟨by omega, ?_⟩))
    rcases a1 with rfl | rfl | rfl <;> rfl
  by_cases a2 : k = 21
  · subst a2
    have hm : m = 2 := by simp at h2; omega
    have hn : (quantOf n).isSome = true := by simpa using h1
    rw [quantT_rng] at hn
    have hn2 := of_decide_eq_true hn
    subst hm
    refine .inr (.inr (.inl ⟨rfl, hn2, ?_⟩))
    have h3 : n = 1 ∨ n = 2 ∨ n = 3 ∨ n = 4 ∨ n = 5 ∨ n = 6 := by omega
    rcases h3 with rfl | rfl | rfl | rfl | rfl | rfl <;> rfl
  by_cases a3 : k = 19
  · exact .inl (by omega)
  by_cases a4 : k = 20
  · subst a4
    have hn : (callOf n).isSome = true := by simpa using h1
    rw [callT_rng] at hn
    have hn2 := of_decide_eq_true hn
    refine .inr (.inl ⟨rfl, hn2, ?_⟩)
    have h3 : n = 1 ∨ n = 2 ∨ n = 3 ∨ n = 4 ∨ n = 5 ∨ n = 6 ∨ n = 7 ∨ n = 8 ∨ n = 9 ∨ n = 10 := by omega
    rcases h3 with rfl | rfl | rfl | rfl | rfl | rfl | rfl | rfl | rfl | rfl <;>
      (simp [callOf, callsL] at h2; simp [fixL]; omega)
  by_cases a5 : k = 25
  · exact .inl (by omega)
  have e1 : (k == 1 || k == 2 || k == 3 || k == 4 || k == 22 || k == 23) = false := by simp; omega
  have e2 : (k == 6 || k == 7 || k == 24) = false := by simp; omega
  have e3 : (k == 21) = false := by simpa using a2
  have e4 : (k == 19) = false := by simpa using a3
  have e5 : (k == 20) = false := by simpa using a4
  have e6 : (k == 25) = false := by simpa using a5
  rw [e1, e2, e3, e4, e5, e6] at h2
  simp only [Bool.false_eq_true, if_false, Bool.and_eq_true, beq_iff_eq] at h2
  have hr := opT_rng h2.1
  have hm : m = 2 := by omega
  subst hm
  by_cases a6 : k = 13 ∨ k = 14
  · exact .inl (by omega)
  refine .inr (.inr (.inr ⟨by omega, ?_⟩))
  have h3 : k = 8 ∨ k = 9 ∨ k = 10 ∨ k = 11 ∨ k = 12 ∨ k = 15 ∨ k = 16 ∨ k = 17 ∨ k = 18 := by omega
  rcases h3 with rfl | rfl | rfl | rfl | rfl | rfl | rfl | rfl | rfl <;> rfl
theorem okR_kind {k n : Int} {m : Nat} (h : okR k n m) : 1 ≤ k ∧ k ≤ 25 ∧ k ≠ 5 := by
  unfold okR at h
  omega
end Go.Proofs.YtafnlhnenmpfoaaDoor
