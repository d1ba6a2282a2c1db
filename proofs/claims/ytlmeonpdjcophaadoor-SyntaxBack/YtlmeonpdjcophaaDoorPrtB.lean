/- What is read, with strength enough: rules. No program. -/
import Derived.Test.YtlmeonpdjcophaaDoorBrkM
import Derived.Test.YtlmeonpdjcophaaDoorLexH
import Derived.Test.YtlmeonpdjcophaaDoorSzJ
namespace Go.Proofs.YtlmeonpdjcophaaDoor
set_option linter.unusedVariables false

/-- The signs, with their kinds and rows. -/
def sgnsL : List (List UInt8 × Nat × Nat) := [([97, 110, 100], 17, 2), ([111, 114], 18, 1), ([61], 13, 4), ([33, 61], 14, 4), ([60], 15, 4), ([60, 61], 16, 4), ([43], 8, 5), ([45], 9, 5), ([42], 10, 6), ([47], 11, 6), ([37], 12, 6)]
/-- A sign's token, and what stands behind it, a parenthesis first. -/
theorem lex_sign (z : List UInt8 × Nat × Nat) (hz : z ∈ sgnsL) (q : Nat) (m : List UInt8) : ∃ k, lexL 0 [] q q (z.1 ++ 40 :: m) = consR ⟨k, 0, z.1, q⟩ (lexL 0 [] (q + z.1.length) (q + z.1.length) (40 :: m)) ∧ k ≠ 0 := by
  have word : ∀ (u : List UInt8) (c : UInt8) (r : List UInt8), u = c :: r → cls c.toNat = 1 → (∀ j (h : j < r.length), tks 1 (c :: r.take j) (r[j]).toNat = true) → wordB u = true → lexL 0 [] q q (u ++ 40 :: m) = consR ⟨3, 0, u, q⟩ (lexL 0 [] (q + u.length) (q + u.length) (40 :: m)) := by
    intro u c r hu hc hr hw
    subst hu
    have hb : blk c.toNat = false := by
      cases h : blk c.toNat with
      | false => rfl
      | true => rw [cls, if_pos h] at hc; cases hc
    rw [List.cons_append, lexL_no (k := 0) (by exact hb), hc]
    show lexL 1 [c] q (q + 1) (r ++ 40 :: m) = _
    rw [lexL_end 1 [c] q (q + 1) r (40 :: m) hr (fun c' r' e => by injection e with e _; subst e; exact par_tks 40 (.inl rfl) 1 _ (by decide))]
    have e1 : q + 1 + r.length = q + (c :: r).length := by simp; omega
    rw [e1]
    simp [shutP, ptok, wrdT, hw]
  have two : ∀ (c : UInt8), (c = 33 ∨ c = 60) → lexL 0 [] q q ([c, 61] ++ 40 :: m) = consR ⟨4, 0, [c, 61], q⟩ (lexL 0 [] (q + 2) (q + 2) (40 :: m)) := by
    intro c hc
    have h0 : blk c.toNat = false := by rcases hc with rfl | rfl <;> rfl
    have h3 : cls c.toNat = 3 := by rcases hc with rfl | rfl <;> rfl
    show lexL 0 [] q q (c :: 61 :: 40 :: m) = _
    rw [lexL_no (k := 0) (by exact h0), h3]
    show lexL 3 [c] q (q + 1) (61 :: 40 :: m) = _
    rw [lexL_yes (k := 3) (by rcases hc with rfl | rfl <;> rfl), lexL_shut (par_tks 40 (.inl rfl) 3 _ (by decide))]
    show shutP 3 [c, 61] q _ = _
    simp [shutP, ptok, sgnT]
  have less : lexL 0 [] q q ([60] ++ 40 :: m) = consR ⟨4, 0, [60], q⟩ (lexL 0 [] (q + 1) (q + 1) (40 :: m)) := by
    show lexL 0 [] q q (60 :: 40 :: m) = _
    rw [lexL_no (k := 0) (by rfl), show cls (60 : UInt8).toNat = 3 from rfl]
    show lexL 3 [60] q (q + 1) (40 :: m) = _
    rw [lexL_shut (par_tks 40 (.inl rfl) 3 _ (by decide))]
    simp [shutP, ptok, sgnT]
  simp only [sgnsL, List.mem_cons, List.not_mem_nil, or_false] at hz
  rcases hz with rfl | rfl | rfl | rfl | rfl | rfl | rfl | rfl | rfl | rfl | rfl
  · exact ⟨3, word _ 97 [110, 100] rfl (by decide) (by decide) (by decide), by decide⟩
  · exact ⟨3, word _ 111 [114] rfl (by decide) (by decide) (by decide), by decide⟩
  · exact ⟨4, lex_one 61 q _ (by decide) (by decide) (by decide), by decide⟩
  · exact ⟨4, two 33 (.inl rfl), by decide⟩
  · exact ⟨4, less, by decide⟩
  · exact ⟨4, two 60 (.inr rfl), by decide⟩
  · exact ⟨4, lex_one 43 q _ (by decide) (by decide) (by decide), by decide⟩
  · exact ⟨4, lex_one 45 q _ (by decide) (by decide) (by decide), by decide⟩
  · exact ⟨4, lex_one 42 q _ (by decide) (by decide) (by decide), by decide⟩
  · exact ⟨4, lex_one 47 q _ (by decide) (by decide) (by decide), by decide⟩
  · exact ⟨4, lex_one 37 q _ (by decide) (by decide) (by decide), by decide⟩
theorem up_many {n o q : Nat} {x h : Tk} {l r : List Tk} {e : Ex} (hx1 : x.t ≠ [110, 111, 116]) (hx2 : x.t ≠ [45]) (k : Nat) (hk : k ≤ 8) (H : partF (n + 1) k o q (x :: l) = .ok e (h :: r)) : ∀ j, j < k → (∀ row, k - j ≤ row → row < k → opAt h.t row = none) → partF (n + 1 + j) (k - j) o q (x :: l) = .ok e (h :: r)
  | 0, hj, ho => H
  | j + 1, hj, ho => by
    have ih := up_many hx1 hx2 k hk H j (by omega) (fun row h1 h2 => ho row (by omega) h2)
    have e1 : k - j = (k - (j + 1)) + 1 := by omega
    rw [e1, show n + 1 + j = (n + j) + 1 by omega] at ih
    have := up_ok (by omega) hx1 hx2 (ho _ (Nat.le_refl _) (by omega)) ih
    rw [show n + 1 + (j + 1) = (n + j) + 2 by omega]
    exact this
/-- Two parts with a sign of a row between. -/
theorem chain_two {n r kd r0 ll rt : Nat} {s0 : List UInt8} {x sg E : Tk} {l T3 : List Tk} {e1 e2 : Ex} (h3 : r ≠ 3) (h7 : r ≠ 7) (h8 : r ≠ 8) (H1 : partF (n + 2) (r + 1) 0 0 (x :: l) = .ok e1 (sg :: T3)) (hop : opAt sg.t r = some (s0, kd, r0, ll, rt)) (H3 : partF (n + 2) rt 0 0 T3 = .ok e2 [E]) (hE : E.t = []) :
    partF (n + 3) r 0 0 (x :: l) = .ok ⟨(kd : Nat), 0, [], sg.a, (one e1).snoc e2⟩ [E] := by
  show partF ((n + 2) + 1) r 0 0 (x :: l) = _
  have no : opAt E.t r = none := by rw [hE]; simp [opAt, opsL]
  rw [partF, if_neg h3, if_neg h7, if_neg h8, H1]
  show chainL (partF (n + 2)) (n + 2) r 0 0 e1 (sg :: T3) = _
  show chainL (partF (n + 2)) ((n + 1) + 1) r 0 0 e1 (sg :: T3) = _
  simp only [chainL, hop, H3, Rs.bind]
  split
  · rfl
  · show chainL (partF (n + 2)) (n + 1) r 0 0 _ [E] = _
    simp only [chainL, no]
theorem mvT_zero (us : List Tk) : us.map (mvT 0) = us := by
  have : (mvT 0) = id := by funext x; rfl
  rw [this, List.map_id]
theorem mvT_mvT (d q : Nat) (us : List Tk) : (us.map (mvT d)).map (mvT q) = us.map (mvT (d + q)) := by
  rw [List.map_map]
  congr 1
  funext x
  simp [mvT, Nat.add_assoc]
/-- What stands in parentheses, where it is not too deep. -/
theorem par_inside {s : List UInt8} {x : Ex} {t : List Tk} (h : parseA s = .ok x t) (hl : s.length + 2 ≤ 2000) {y : Ex} {t' : List Tk} (h' : parseA (40 :: (s ++ [41])) = .ok y t') :
    ∃ us, lexA s = .inr (us ++ [⟨0, 0, [], s.length⟩]) ∧ us.length ≤ s.length ∧ partF 29992 1 1 0 (us.map (mvT 1) ++ [⟨4, 0, [41], 1 + s.length⟩, ⟨0, 0, [], 2 + s.length⟩]) = .ok (x.mv 1) [⟨4, 0, [41], 1 + s.length⟩, ⟨0, 0, [], 2 + s.length⟩] := by
  obtain ⟨us, E, h0, h1, rfl, h2, h3, h4⟩ := parse_text h
  refine ⟨us, h1, h2, ?_⟩
  have S : Stops 1 1 [⟨0, 0, [], s.length⟩] [⟨4, 0, [41], 1 + s.length⟩, ⟨0, 0, [], 2 + s.length⟩] := ⟨fun _ => by omega, ⟨_, _, rfl, .inl ⟨rfl, rfl⟩⟩, ⟨_, _, rfl, rfl, rfl⟩⟩
  have hlen : (us ++ [(⟨0, 0, [], s.length⟩ : Tk)]).length ≤ 2001 := by simp; omega
  rw [part_same (n' := 29992) (by omega) (wft_end us s.length) (by omega) (by omega)] at h4
  obtain ⟨u, hu, h7⟩ := sim_part S 29992 1 0 0 us x _ h4 (by simp)
  have hu0 : u = [] := by
    have := congrArg List.length hu
    simp at this
    exact this
  subst hu0
  rcases h7 with h7 | ⟨_, a, h7, ha⟩
  · exact h7
  · exfalso
    have A := par_atom 29992 0 0 0 (us.map (mvT 1) ++ [⟨4, 0, [41], 1 + s.length⟩, ⟨0, 0, [], 2 + s.length⟩]) (by omega)
    rw [h7] at A
    have A : partF 29993 8 0 0 (⟨4, 0, [40], 0⟩ :: (us.map (mvT 1) ++ [⟨4, 0, [41], 1 + s.length⟩, ⟨0, 0, [], 2 + s.length⟩])) = .bad 121 a := A
    have hx1 : (⟨4, 0, [40], 0⟩ : Tk).t ≠ [110, 111, 116] := by decide
    have hx2 : (⟨4, 0, [40], 0⟩ : Tk).t ≠ [45] := by decide
    have A := up_bad (row := 7) (by decide) hx1 hx2 A
    have A := up_bad (row := 6) (by decide) hx1 hx2 A
    have A := up_bad (row := 5) (by decide) hx1 hx2 A
    have A := up_bad (row := 4) (by decide) hx1 hx2 A
    have A := up_bad (row := 3) (by decide) hx1 hx2 A
    have A := up_bad (row := 2) (by decide) hx1 hx2 A
    have A := up_bad (row := 1) (by decide) hx1 hx2 A
    obtain ⟨vs, h5, h6⟩ := lex_par 0 s [] _ h1
    have hv : us = vs := List.append_inj_left' h5 rfl
    subst hv
    have hs : scanA (40 :: (s ++ [41])) = .inr (⟨4, 0, [40], 0⟩ :: (us.map (mvT 1) ++ [⟨4, 0, [41], 1 + s.length⟩, ⟨0, 0, [], 2 + s.length⟩])) := by
      rw [scan_short (by simp; omega)]
      show lexL 0 [] 0 0 _ = _
      rw [h6]
      have e1 : lexL 0 [] (0 + 2 + s.length) (0 + 2 + s.length) [] = .inr [⟨0, 0, [], 0 + 2 + s.length⟩] := rfl
      rw [e1, preR_inr]
      simp only [Nat.zero_add, List.cons_append, List.append_assoc, List.nil_append]
    unfold parseA at h'
    rw [hs] at h'
    have h' : readF 30000 (⟨4, 0, [40], 0⟩ :: (us.map (mvT 1) ++ [⟨4, 0, [41], 1 + s.length⟩, ⟨0, 0, [], 2 + s.length⟩])) = .ok y t' := h'
    unfold readF at h'
    rw [A] at h'
    cases h'
/-- A text in parentheses, anywhere. -/
theorem par_any {s : List UInt8} {us : List Tk} {x : Ex} (hl : us.length ≤ 2000) (h : partF 29992 1 1 0 (us.map (mvT 1) ++ [⟨4, 0, [41], 1 + s.length⟩, ⟨0, 0, [], 2 + s.length⟩]) = .ok x [⟨4, 0, [41], 1 + s.length⟩, ⟨0, 0, [], 2 + s.length⟩]) (a q p : Nat) (z : Tk) (r : List Tk) :
    partF 29993 8 0 0 (⟨4, 0, [40], a⟩ :: (us.map (mvT (q + 1)) ++ ⟨4, 0, [41], p⟩ :: z :: r)) = .ok (x.mv q) (z :: r) := by
  have S : Stops 0 q [⟨4, 0, [41], 1 + s.length⟩, ⟨0, 0, [], 2 + s.length⟩] (⟨4, 0, [41], p⟩ :: z :: r) := ⟨fun h => absurd rfl h, ⟨_, _, rfl, .inr ⟨rfl, rfl⟩⟩, ⟨_, _, rfl, rfl, rfl⟩⟩
  obtain ⟨u, hu, h7⟩ := sim_part S 29992 1 1 0 (us.map (mvT 1)) x _ h (Nat.le_refl _)
  have hu0 : u = [] := by
    have := congrArg List.length hu
    simp at this
    exact this
  subst hu0
  rw [par_atom 29992 0 0 a _ (by omega)]
  rcases h7 with h7 | ⟨h7, _⟩
  · rw [mvT_mvT, Nat.add_comm 1 q] at h7
    rw [h7]
    rfl
  · exact absurd rfl h7
theorem sgn_row (z : List UInt8 × Nat × Nat) (hz : z ∈ sgnsL) : ∃ s0 r0 ll rt, opAt z.1 z.2.2 = some (s0, z.2.1, r0, ll, rt) ∧ z.2.2 < rt ∧ rt ≤ 8 ∧ 1 ≤ z.2.2 ∧ z.2.2 ≤ 6 ∧ z.2.2 ≠ 3 ∧ (∀ row, z.2.2 < row → row < 8 → opAt z.1 row = none) := by
  have none7 : ∀ (t : List UInt8) (r : Nat), (opsL.all fun o => !(o.1 == t) || decide (o.2.2.1 ≤ r)) = true → ∀ row, r < row → row < 8 → opAt t row = none := by
    intro t r h row h1 _
    unfold opAt
    rw [List.find?_eq_none]
    intro o ho hp
    have := List.all_eq_true.1 h o ho
    simp only [Bool.and_eq_true, beq_iff_eq] at hp
    simp [hp.1] at this
    omega
  simp only [sgnsL, List.mem_cons, List.not_mem_nil, or_false] at hz
  rcases hz with rfl | rfl | rfl | rfl | rfl | rfl | rfl | rfl | rfl | rfl | rfl
  all_goals exact ⟨_, _, _, _, rfl, by decide, by decide, by decide, by decide, by decide, none7 _ _ (by decide)⟩
/-- Two texts in parentheses with a sign between. -/
theorem parse_join {a b : List UInt8} {x y x' y' : Ex} {ta tb ta' tb' : List Tk} (ha : parseA a = .ok x ta) (hb : parseA b = .ok y tb) (ha' : parseA (40 :: (a ++ [41])) = .ok x' ta') (hb' : parseA (40 :: (b ++ [41])) = .ok y' tb')
    (z : List UInt8 × Nat × Nat) (hz : z ∈ sgnsL) (hl : a.length + b.length + 4 + z.1.length ≤ 2000) :
    ∃ q t, parseA (40 :: (a ++ 41 :: (z.1 ++ 40 :: (b ++ [41])))) = .ok ⟨(z.2.1 : Nat), 0, [], ((a.length + 2 : Nat) : Int), (one ((x.mv 1).mv 0)).snoc ((y.mv 1).mv q)⟩ t := by
  obtain ⟨ua, a1, a2, a3⟩ := par_inside ha (by omega) ha'
  obtain ⟨ub, b1, b2, b3⟩ := par_inside hb (by omega) hb'
  obtain ⟨va, a4, a5⟩ := lex_par 0 a (z.1 ++ 40 :: (b ++ [41])) _ a1
  have hva : ua = va := List.append_inj_left' a4 rfl
  subst hva
  obtain ⟨k, s1, s2⟩ := lex_sign z hz (0 + 2 + a.length) (b ++ [41])
  obtain ⟨vb, b4, b5⟩ := lex_par (0 + 2 + a.length + z.1.length) b [] _ b1
  have hvb : ub = vb := List.append_inj_left' b4 rfl
  subst hvb
  generalize hq : 0 + 2 + a.length + z.1.length = q at *
  have e1 : lexL 0 [] (q + 2 + b.length) (q + 2 + b.length) [] = .inr [⟨0, 0, [], q + 2 + b.length⟩] := rfl
  rw [e1, preR_inr] at b5
  rw [b5] at s1
  rw [s1] at a5
  have hs : scanA (40 :: (a ++ 41 :: (z.1 ++ 40 :: (b ++ [41])))) = .inr (⟨4, 0, [40], 0⟩ :: (ua.map (mvT 1) ++ ⟨4, 0, [41], 1 + a.length⟩ :: ⟨k, 0, z.1, 2 + a.length⟩ :: ⟨4, 0, [40], q⟩ :: (ub.map (mvT (q + 1)) ++ [⟨4, 0, [41], q + 1 + b.length⟩, ⟨0, 0, [], q + 2 + b.length⟩]))) := by
    rw [scan_short (by simp; omega)]
    show lexL 0 [] 0 0 _ = _
    rw [a5]
    show preR _ (.inr _) = _
    rw [preR_inr]
    simp only [Nat.zero_add, List.cons_append, List.append_assoc, List.nil_append]
  obtain ⟨s0, r0, ll, rt, o1, o2, o3, o4, o5, o6, o7⟩ := sgn_row z hz
  refine ⟨q, [⟨0, 0, [], q + 2 + b.length⟩], ?_⟩
  have A := par_any (by omega) a3 0 0 (1 + a.length) ⟨k, 0, z.1, 2 + a.length⟩ (⟨4, 0, [40], q⟩ :: (ub.map (mvT (q + 1)) ++ [⟨4, 0, [41], q + 1 + b.length⟩, ⟨0, 0, [], q + 2 + b.length⟩]))
  have B := par_any (by omega) b3 q q (q + 1 + b.length) ⟨0, 0, [], q + 2 + b.length⟩ []
  have hx1 : ∀ p, (⟨4, 0, [40], p⟩ : Tk).t ≠ [110, 111, 116] := fun p => by simp
  have hx2 : ∀ p, (⟨4, 0, [40], p⟩ : Tk).t ≠ [45] := fun p => by simp
  have A2 := up_many (hx1 _) (hx2 _) 8 (by omega) A (7 - z.2.2) (by omega) (fun row h1 h2 => o7 row (by omega) h2)
  have B2 := up_many (hx1 _) (hx2 _) 8 (by omega) B (8 - rt) (by omega) (fun row h1 h2 => by simp [opAt, opsL])
  rw [show 8 - (7 - z.2.2) = z.2.2 + 1 by omega, show 29992 + 1 + (7 - z.2.2) = (29998 - z.2.2) + 2 by omega] at A2
  rw [show 8 - (8 - rt) = rt by omega] at B2
  have hlb : (⟨4, 0, [40], q⟩ :: (ub.map (mvT (q + 1)) ++ [⟨4, 0, [41], q + 1 + b.length⟩, ⟨0, 0, [], q + 2 + b.length⟩]) : List Tk).length ≤ 2003 := by simp only [List.length_cons, List.length_append, List.length_map, List.length_nil]; omega
  have wft : WFT (⟨4, 0, [40], q⟩ :: (ub.map (mvT (q + 1)) ++ [⟨4, 0, [41], q + 1 + b.length⟩, ⟨0, 0, [], q + 2 + b.length⟩])) := by
    have := wft_end (⟨4, 0, [40], q⟩ :: (ub.map (mvT (q + 1)) ++ [⟨4, 0, [41], q + 1 + b.length⟩])) (q + 2 + b.length)
    simpa using this
  rw [part_same (n' := (29998 - z.2.2) + 2) o3 wft (by omega) (by omega)] at B2
  have C := chain_two (by omega) (by omega) (by omega) A2 o1 B2 rfl
  have hc : (29998 - z.2.2) + 3 = (30000 - z.2.2) + 1 := by omega
  rw [hc] at C
  have C2 := up_many (hx1 _) (hx2 _) z.2.2 (by omega) C (z.2.2 - 1) (by omega) (fun row h1 h2 => by simp [opAt, opsL])
  rw [show z.2.2 - (z.2.2 - 1) = 1 by omega, show 30000 - z.2.2 + 1 + (z.2.2 - 1) = 30000 by omega] at C2
  unfold parseA
  rw [hs]
  show readF 30000 _ = _
  unfold readF
  rw [C2]
  show Rs.ok _ _ = Rs.ok _ _
  congr 3
  simp
  omega
end Go.Proofs.YtlmeonpdjcophaaDoor
namespace Go.Proofs.YtlmeonpdjcophaaDoor
set_option linter.unusedVariables false
set_option linter.unusedSimpArgs false

/-- A byte that no piece goes on with. -/
def sf (c : UInt8) : Prop := c = 32 ∨ c = 40 ∨ c = 41 ∨ c = 44 ∨ c = 58 ∨ c = 123 ∨ c = 125
theorem sf_tks {c : UInt8} (hc : sf c) (k : Nat) (t : List UInt8) (hk : k ≠ 0) : tks k t c.toNat = false := by
  unfold tks
  split
  · exact absurd rfl hk
  · rcases hc with rfl | rfl | rfl | rfl | rfl | rfl | rfl <;> rfl
  · rcases hc with rfl | rfl | rfl | rfl | rfl | rfl | rfl <;> rfl
  · rcases hc with rfl | rfl | rfl | rfl | rfl | rfl | rfl <;> rfl
  · rfl
/-- What may stand behind a piece. -/
def Okm (m : List UInt8) : Prop := m = [] ∨ ∃ c r, m = c :: r ∧ sf c
/-- A text and its tokens, where what stands behind begins so. -/
def Lx (U : List UInt8) (us : List Tk) : Prop := ∀ p m, Okm m → lexL 0 [] p p (U ++ m) = preR (us.map (mvT p)) (lexL 0 [] (p + U.length) (p + U.length) m)
/-- A text and its tokens, whatever stands behind. -/
def La (U : List UInt8) (us : List Tk) : Prop := ∀ p m, lexL 0 [] p p (U ++ m) = preR (us.map (mvT p)) (lexL 0 [] (p + U.length) (p + U.length) m)
theorem La.lx {U : List UInt8} {us : List Tk} (h : La U us) : Lx U us := fun p m _ => h p m
theorem preR_app (a b : List Tk) (X : Res) : preR (a ++ b) X = preR a (preR b X) := by
  induction a with
  | nil => rfl
  | cons y r ih => simp only [List.cons_append, preR, ih]
theorem mv_app (p d : Nat) (us vs : List Tk) : (us ++ vs.map (mvT d)).map (mvT p) = us.map (mvT p) ++ vs.map (mvT (p + d)) := by
  rw [List.map_append, mvT_mvT, Nat.add_comm]
theorem La.app {U V : List UInt8} {us vs : List Tk} (h : La U us) (k : La V vs) : La (U ++ V) (us ++ vs.map (mvT U.length)) := fun p m => by
  rw [List.append_assoc, h, k, mv_app, preR_app, List.length_append, Nat.add_assoc]
theorem La.then {U V : List UInt8} {us vs : List Tk} (h : La U us) (k : Lx V vs) : Lx (U ++ V) (us ++ vs.map (mvT U.length)) := fun p m hm => by
  rw [List.append_assoc, h, k _ _ hm, mv_app, preR_app, List.length_append, Nat.add_assoc]
theorem Lx.app {U V : List UInt8} {us vs : List Tk} (h : Lx U us) (k : La V vs) (hv : ∃ c r, V = c :: r ∧ sf c) : La (U ++ V) (us ++ vs.map (mvT U.length)) := fun p m => by
  obtain ⟨c, r, rfl, hc⟩ := hv
  rw [List.append_assoc, h p (c :: r ++ m) (.inr ⟨c, r ++ m, rfl, hc⟩), k, mv_app, preR_app, List.length_append, Nat.add_assoc]
theorem Lx.more {U V : List UInt8} {us vs : List Tk} (h : Lx U us) (k : Lx V vs) (hv : V = [] ∨ ∃ c r, V = c :: r ∧ sf c) : Lx (U ++ V) (us ++ vs.map (mvT U.length)) := fun p m hm => by
  have ho : Okm (V ++ m) := by
    rcases hv with rfl | ⟨c, r, rfl, hc⟩
    · exact hm
    · exact .inr ⟨c, r ++ m, rfl, hc⟩
  rw [List.append_assoc, h p _ ho, k _ _ hm, mv_app, preR_app, List.length_append, Nat.add_assoc]
theorem la_nil : La [] [] := fun p m => rfl
theorem la_blank : La [32] [] := fun p m => by
  show lexL 0 [] p p (32 :: m) = _
  rw [lexL_yes (k := 0) (by rfl)]
  exact lexL_blank _ _ _ _ _ _
theorem la_sign (c : UInt8) (h0 : blk c.toNat = false) (h3 : cls c.toNat = 3) (hn : c ≠ 33 ∧ c ≠ 60) : La [c] [⟨4, 0, [c], 0⟩] := fun p m => by
  show lexL 0 [] p p (c :: m) = _
  rw [lex_one c p m h0 h3 hn]
  simp [preR, mvT]
/-- A piece. -/
theorem lx_piece {k : Nat} {u : List UInt8} {x : Tk} (hP : Pce k u) (hx : ptok k u 0 = .inr x) : Lx u [x] := fun p m hm => by
  obtain ⟨hk, c, r, rfl, hc, hr⟩ := hP
  have hb : blk c.toNat = false := by
    cases h : blk c.toNat with
    | false => rfl
    | true => rw [cls, if_pos h] at hc; exact absurd hc.symm hk
  rw [List.cons_append, lexL_no (k := 0) (by exact hb), hc]
  show lexL k [c] p (p + 1) (r ++ m) = _
  rw [lexL_end k [c] p (p + 1) r m hr (fun c' r' e => by
    rcases hm with rfl | ⟨c2, r2, rfl, hs⟩
    · cases e
    · injection e with e1 _
      subst e1
      exact sf_tks hs k _ hk)]
  have e1 : p + 1 + r.length = p + (c :: r).length := by simp; omega
  rw [e1]
  obtain ⟨ha, hall⟩ := ptok_inr hx
  show shutP k (c :: r) p _ = _
  unfold shutP
  rw [if_neg hk, hall p]
  show consR _ _ = consR _ _
  congr 1
  show (⟨x.k, x.n, x.t, p⟩ : Tk) = ⟨x.k, x.n, x.t, x.a + p⟩
  rw [ha, Nat.zero_add]
theorem pce_word {c : UInt8} {r : List UInt8} (hc : ltr c.toNat = true) (hr : ∀ b, b ∈ r → (ltr b.toNat || dig b.toNat || b.toNat == 95) = true) : Pce 1 (c :: r) := by
  have hb : blk c.toNat = false := by
    cases h : blk c.toNat with
    | false => rfl
    | true =>
      simp only [blk, Bool.or_eq_true, beq_iff_eq] at h
      simp only [ltr, sml, Bool.or_eq_true, Bool.and_eq_true, decide_eq_true_eq] at hc
      omega
  refine ⟨by decide, c, r, rfl, by simp [cls, hb, hc], fun j h => ?_⟩
  exact hr _ (List.getElem_mem h)
theorem lx_word {u : List UInt8} (h : wordB u = true) : Lx u [⟨3, 0, u, 0⟩] := by
  have hall : ∀ u ∈ wordsL, (match u with | [] => false | c :: r => ltr c.toNat && r.all fun b => ltr b.toNat || dig b.toNat || b.toNat == 95) = true := by decide
  have hu := hall u (by simpa [wordB] using h)
  cases u with
  | nil => cases hu
  | cons c r =>
    simp only [Bool.and_eq_true, List.all_eq_true] at hu
    exact lx_piece (pce_word hu.1 hu.2) (by simp [ptok, wrdT, h])
theorem lx_name {u : List UInt8} (h : nameB u = true) : Lx u [⟨2, 0, u, 0⟩] := by
  cases u with
  | nil => cases h
  | cons c r =>
    have h' := h
    simp only [nameB, Bool.and_eq_true, decide_eq_true_eq, List.all_eq_true, Bool.not_eq_true'] at h'
    refine lx_piece (pce_word (by simp [ltr, h'.1.1.2]) (fun b hb => ?_)) (by simp [ptok, wrdT, h'.2, h])
    have := h'.1.2 b hb
    simp only [inn, Bool.or_eq_true] at this ⊢
    rcases this with (h1 | h1) | h1
    · exact .inl (.inl (by simp [ltr, h1]))
    · exact .inl (.inr h1)
    · exact .inr h1
/-- The digits of a number. -/
theorem dec_all (u : Nat) : Digs (Go.Lib.decDigits u) ∧ dval 0 (Go.Lib.decDigits u) = u ∧ (Go.Lib.decDigits u ≠ []) ∧ (((Go.Lib.decDigits u).head? ≠ some 48) ∨ (Go.Lib.decDigits u).length ≤ 1) ∧ (0 < u → (Go.Lib.decDigits u).head? ≠ some 48) := by
  induction u using Nat.strongRecOn with
  | _ u IH =>
  have tn : ∀ d, d < 10 → (UInt8.ofNat (48 + d)).toNat = 48 + d := fun d hd => by
    rw [UInt8.toNat_ofNat']
    omega
  by_cases h : u < 10
  · rw [Go.Lib.decDigits, dif_pos h]
    have ht := tn u h
    refine ⟨fun c hc => ?_, ?_, by simp, .inr (by simp), fun h0 => ?_⟩
    · simp only [List.mem_singleton] at hc
      rw [hc, ht]
      omega
    · show dval 0 [_] = u
      rw [dval_cons, dval_nil, ht]
      omega
    · simp only [List.head?_cons, ne_eq, Option.some.injEq]
      intro e
      have := congrArg UInt8.toNat e
      rw [ht] at this
      have : 48 + u = 48 := this
      omega
  · rw [Go.Lib.decDigits, dif_neg h]
    obtain ⟨i1, i2, i3, i4, i5⟩ := IH (u / 10) (by omega)
    have ht := tn (u % 10) (by omega)
    have hhd : (Go.Lib.decDigits (u / 10) ++ [UInt8.ofNat (48 + u % 10)]).head? ≠ some 48 := by
      cases hd : Go.Lib.decDigits (u / 10) with
      | nil => exact absurd hd i3
      | cons c r =>
        have := i5 (by omega)
        rw [hd] at this
        simpa using this
    refine ⟨fun c hc => ?_, ?_, by simp, .inl hhd, fun _ => hhd⟩
    · rcases List.mem_append.1 hc with hc | hc
      · exact i1 c hc
      · simp only [List.mem_singleton] at hc
        rw [hc, ht]
        omega
    · rw [dval_append, i2, dval_cons, dval_nil, ht]
      omega
theorem lx_num {n : Int} (h0 : 0 ≤ n) (h1 : n ≤ 9223372036854775807) : Lx (Go.Lib.itoa n) [⟨1, n, [], 0⟩] := by
  obtain ⟨u, rfl⟩ : ∃ u : Nat, n = u := ⟨n.toNat, by omega⟩
  have hi : Go.Lib.itoa (u : Int) = Go.Lib.decDigits u := by unfold Go.Lib.itoa; rw [if_neg (by omega)]; simp
  rw [hi]
  obtain ⟨d1, d2, d3, d4, _⟩ := dec_all u
  have hn := numT_yes d1 d3 d4 (by rw [d2]; omega) 0
  rw [d2] at hn
  cases hd : Go.Lib.decDigits u with
  | nil => exact absurd hd d3
  | cons c r =>
    rw [hd] at hn d1
    have hdig : ∀ b, b ∈ c :: r → dig b.toNat = true := fun b hb => by
      have := d1 b hb
      simp only [dig, Bool.and_eq_true, decide_eq_true_eq]
      exact this
    have hc := d1 c (by simp)
    refine lx_piece (k := 2) ⟨by decide, c, r, rfl, ?_, fun j h => hdig _ (List.mem_cons_of_mem _ (List.getElem_mem h))⟩ hn
    have b1 : blk c.toNat = false := by simp [blk]; omega
    have b2 : ltr c.toNat = false := by simp [ltr, sml]; omega
    simp [cls, b1, b2, hdig c (by simp)]
/-- What a writer does: it lays U, opens D at most, and Q quantifiers. -/
def Wt (U : List UInt8) (D Q : Nat) (F : St → St) : Prop := ∀ s : St, s.a ≤ s.m → s.b ≤ s.n → F s = ⟨s.t ++ U, s.a, max s.m (s.a + D), s.b, max s.n (s.b + Q)⟩
theorem wt_lay (x : List UInt8) : Wt x 0 0 (fun s => s.lay x) := fun s h1 h2 => by
  simp only [St.lay, Nat.add_zero, Nat.max_eq_left h1, Nat.max_eq_left h2]
theorem wt_id : Wt [] 0 0 (fun s => s) := fun s h1 h2 => by
  simp only [Nat.add_zero, Nat.max_eq_left h1, Nat.max_eq_left h2, List.append_nil]
theorem Wt.comp {U V : List UInt8} {D D' Q Q' : Nat} {F G : St → St} (h : Wt U D Q F) (k : Wt V D' Q' G) : Wt (U ++ V) (max D D') (max Q Q') (fun s => G (F s)) := fun s h1 h2 => by
  show G (F s) = _
  rw [h s h1 h2, k _ (by show s.a ≤ max s.m (s.a + D); omega) (by show s.b ≤ max s.n (s.b + Q); omega)]
  simp only [List.append_assoc, St.mk.injEq, true_and]
  exact ⟨by omega, by omega⟩
theorem Wt.wrap {U : List UInt8} {D Q : Nat} {F : St → St} (h : Wt U D Q F) : Wt U (D + 1) Q (fun s => (F s.ent).lea) := fun s h1 h2 => by
  show (F s.ent).lea = _
  rw [h s.ent (by show s.a + 1 ≤ max s.m (s.a + 1); omega) h2]
  show (⟨s.t ++ U, s.a + 1 - 1, max (max s.m (s.a + 1)) (s.a + 1 + D), s.b, max s.n (s.b + Q)⟩ : St) = _
  rw [St.mk.injEq]
  exact ⟨rfl, by omega, by omega, rfl, rfl⟩
theorem Wt.qwrap {U : List UInt8} {D Q : Nat} {F : St → St} (h : Wt U D Q F) : Wt U D (Q + 1) (fun s => (F s.qent).qlea) := fun s h1 h2 => by
  show (F s.qent).qlea = _
  rw [h s.qent h1 (by show s.b + 1 ≤ max s.n (s.b + 1); omega)]
  show (⟨s.t ++ U, s.a, max s.m (s.a + D), s.b + 1 - 1, max (max s.n (s.b + 1)) (s.b + 1 + Q)⟩ : St) = _
  rw [St.mk.injEq]
  exact ⟨rfl, rfl, rfl, by omega, by omega⟩
end Go.Proofs.YtlmeonpdjcophaaDoor
namespace Go.Proofs.YtlmeonpdjcophaaDoor
set_option linter.unusedVariables false
set_option linter.unusedSimpArgs false

def EvP (row o q : Nat) (ts : List Tk) (x : Ex) (t : List Tk) : Prop := ∃ N, ∀ n, N ≤ n → partF n row o q ts = .ok x t
def EvC (row o q : Nat) (l : Ex) (ts : List Tk) (res : Rs Ex) : Prop := ∃ N, ∀ n m, N ≤ n → N ≤ m → chainL (partF n) m row o q l ts = res
def EvL (row o q : Nat) (ts : List Tk) (res : Rs Ex) : Prop := ∃ N, ∀ n m, N ≤ n → N ≤ m → ((partF n (row + 1) o q ts).bind fun l t => chainL (partF n) m row o q l t) = res
/-- A token at which rows from this one on stop. -/
def Sp (row : Nat) (ts : List Tk) : Prop := ∃ h r, ts = h :: r ∧ ∀ k, row ≤ k → opAt h.t k = none
theorem Sp.up {a b : Nat} {ts : List Tk} (h : Sp a ts) (hb : a ≤ b) : Sp b ts := by
  obtain ⟨x, r, e, h⟩ := h
  exact ⟨x, r, e, fun k hk => h k (by omega)⟩
theorem ev_stop {row o q : Nat} {l : Ex} {ts : List Tk} (h : Sp row ts) : EvC row o q l ts (.ok l ts) := by
  obtain ⟨x, r, rfl, h⟩ := h
  refine ⟨1, fun n m _ hm => ?_⟩
  obtain ⟨m, rfl⟩ : ∃ k, m = k + 1 := ⟨m - 1, by omega⟩
  simp only [chainL, h row (Nat.le_refl _)]
theorem ev_op {row o q k r0 l rt : Nat} {s0 : List UInt8} {left right : Ex} {x : Tk} {r t2 : List Tk} {res : Rs Ex} (hop : opAt x.t row = some (s0, k, r0, l, rt)) (hr : EvP rt o q r right t2) (hl : ¬ row < l) (hc : EvC row o q ⟨(k : Nat), 0, [], x.a, (one left).snoc right⟩ t2 res) : EvC row o q left (x :: r) res := by
  obtain ⟨N1, h1⟩ := hr
  obtain ⟨N2, h2⟩ := hc
  refine ⟨N1 + N2 + 1, fun n m hn hm => ?_⟩
  obtain ⟨m, rfl⟩ : ∃ k, m = k + 1 := ⟨m - 1, by omega⟩
  simp only [chainL, hop, h1 n (by omega), Rs.bind, hl, if_false]
  exact h2 n m (by omega) (by omega)
theorem ev_cmp {row o q k r0 l rt : Nat} {s0 : List UInt8} {left right : Ex} {x : Tk} {r t2 : List Tk} (hop : opAt x.t row = some (s0, k, r0, l, rt)) (hr : EvP rt o q r right t2) (hl : row < l) : EvC row o q left (x :: r) (.ok ⟨(k : Nat), 0, [], x.a, (one left).snoc right⟩ t2) := by
  obtain ⟨N1, h1⟩ := hr
  refine ⟨N1 + 1, fun n m hn hm => ?_⟩
  obtain ⟨m, rfl⟩ : ∃ k, m = k + 1 := ⟨m - 1, by omega⟩
  simp only [chainL, hop, h1 n (by omega), Rs.bind, hl, if_true]
theorem evL_of {row o q : Nat} {ts t : List Tk} {x : Ex} {res : Rs Ex} (h : EvP (row + 1) o q ts x t) (hc : EvC row o q x t res) : EvL row o q ts res := by
  obtain ⟨N1, h1⟩ := h
  obtain ⟨N2, h2⟩ := hc
  refine ⟨N1 + N2, fun n m hn hm => ?_⟩
  rw [h1 n (by omega)]
  exact h2 n m (by omega) (by omega)
theorem evP_of_L {row o q : Nat} {ts t : List Tk} {x : Ex} (h : EvL row o q ts (.ok x t)) (h3 : row ≠ 3) (h7 : row ≠ 7) (h8 : row ≠ 8) : EvP row o q ts x t := by
  obtain ⟨N, h⟩ := h
  refine ⟨N + 1, fun n hn => ?_⟩
  obtain ⟨n, rfl⟩ : ∃ k, n = k + 1 := ⟨n - 1, by omega⟩
  rw [partF, if_neg h3, if_neg h7, if_neg h8]
  exact h n n (by omega) (by omega)
theorem ev_up {row o q : Nat} {x0 : Tk} {l t : List Tk} {x : Ex} (h : EvP (row + 1) o q (x0 :: l) x t) (hs : Sp row t) (h8 : row < 8) (h3 : row = 3 → x0.t ≠ [110, 111, 116]) (h7 : row = 7 → x0.t ≠ [45]) : EvP row o q (x0 :: l) x t := by
  by_cases e3 : row = 3
  · subst e3
    obtain ⟨N, h⟩ := h
    refine ⟨N + 1, fun n hn => ?_⟩
    obtain ⟨n, rfl⟩ : ∃ k, n = k + 1 := ⟨n - 1, by omega⟩
    rw [partF, if_pos rfl]
    simp only [prefR, h3 rfl, if_false]
    exact h n (by omega)
  · by_cases e7 : row = 7
    · subst e7
      obtain ⟨N, h⟩ := h
      refine ⟨N + 1, fun n hn => ?_⟩
      obtain ⟨n, rfl⟩ : ∃ k, n = k + 1 := ⟨n - 1, by omega⟩
      rw [partF, if_neg (by decide), if_pos rfl]
      simp only [prefR, h7 rfl, if_false]
      exact h n (by omega)
    · exact evP_of_L (evL_of h (ev_stop hs)) e3 e7 (by omega)
/-- From a row to one that binds less. -/
theorem ev_up_to {k o q : Nat} {x0 : Tk} {l t : List Tk} {x : Ex} (hk : k ≤ 8) (h : EvP k o q (x0 :: l) x t) (h3 : 3 < k → x0.t ≠ [110, 111, 116]) (h7 : 7 < k → x0.t ≠ [45]) : ∀ j row, row + j = k → Sp row t → EvP row o q (x0 :: l) x t
  | 0, row, e, hs => by
    have : row = k := by omega
    rw [this]
    exact h
  | j + 1, row, e, hs => ev_up (ev_up_to hk h h3 h7 j (row + 1) (by omega) (hs.up (by omega))) hs (by omega) (fun e3 => h3 (by omega)) (fun e7 => h7 (by omega))
theorem ev_not {o q : Nat} {h : Tk} {r t : List Tk} {x : Ex} (hx : EvP 3 (o + 1) q r x t) (ht : h.t = [110, 111, 116]) (ho : o ≠ 64) : EvP 3 o q (h :: r) ⟨7, 0, [], h.a, one x⟩ t := by
  obtain ⟨N, hx⟩ := hx
  refine ⟨N + 1, fun n hn => ?_⟩
  obtain ⟨n, rfl⟩ : ∃ k, n = k + 1 := ⟨n - 1, by omega⟩
  rw [partF, if_pos rfl]
  simp only [prefR, ht, if_true, ho, if_false, hx n (by omega), Rs.bind]
theorem ev_neg {o q : Nat} {h : Tk} {r t : List Tk} {x : Ex} (hx : EvP 7 (o + 1) q r x t) (ht : h.t = [45]) (ho : o ≠ 64) : EvP 7 o q (h :: r) ⟨6, 0, [], h.a, one x⟩ t := by
  obtain ⟨N, hx⟩ := hx
  refine ⟨N + 1, fun n hn => ?_⟩
  obtain ⟨n, rfl⟩ : ∃ k, n = k + 1 := ⟨n - 1, by omega⟩
  rw [partF, if_neg (by decide), if_pos rfl]
  simp only [prefR, ht, if_true, ho, if_false, hx n (by omega), Rs.bind]
/-- What an atom reads. -/
theorem ev_atom {o q : Nat} {ts t : List Tk} {x : Ex} (h : ∃ N, ∀ n, N ≤ n → atomR (partF n) n o q ts = .ok x t) : EvP 8 o q ts x t := by
  obtain ⟨N, h⟩ := h
  refine ⟨N + 1, fun n hn => ?_⟩
  obtain ⟨n, rfl⟩ : ∃ k, n = k + 1 := ⟨n - 1, by omega⟩
  rw [partF, if_neg (by decide), if_neg (by decide), if_pos rfl]
  exact h n (by omega)
theorem ev_num (o q : Nat) (h : Tk) (t : List Tk) (hk : h.k = 1) : EvP 8 o q (h :: t) ⟨1, h.n, [], h.a, .nil⟩ t := ev_atom ⟨0, fun n _ => by simp [atomR, hk]⟩
theorem ev_name (o q : Nat) (h : Tk) (t : List Tk) (hk : h.k = 2) : EvP 8 o q (h :: t) ⟨4, 0, h.t, h.a, .nil⟩ t := ev_atom ⟨0, fun n _ => by simp [atomR, hk]⟩
theorem ev_false (o q : Nat) (h : Tk) (t : List Tk) (hk : h.k = 3) (ht : h.t = [102, 97, 108, 115, 101]) : EvP 8 o q (h :: t) ⟨2, 0, [], h.a, .nil⟩ t := ev_atom ⟨0, fun n _ => by simp [atomR, hk, ht]⟩
theorem ev_true (o q : Nat) (h : Tk) (t : List Tk) (hk : h.k = 3) (ht : h.t = [116, 114, 117, 101]) : EvP 8 o q (h :: t) ⟨2, 1, [], h.a, .nil⟩ t := ev_atom ⟨0, fun n _ => by simp [atomR, hk, ht]⟩
theorem ev_vertex (o q : Nat) (h g : Tk) (t : List Tk) (hk : h.k = 4) (ht : h.t = [64]) (hg : g.k = 1) : EvP 8 o q (h :: g :: t) ⟨3, g.n, [], h.a, .nil⟩ t := ev_atom ⟨0, fun n _ => by simp [atomR, hk, ht, passK, hg, Rs.bind]⟩
theorem ev_par {o q : Nat} {h g : Tk} {r t : List Tk} {x : Ex} (hx : EvP 1 (o + 1) q r x (g :: t)) (hk : h.k = 4) (ht : h.t = [40]) (hg : g.t = [41]) (ho : o ≠ 64) : EvP 8 o q (h :: r) x t := by
  obtain ⟨N, hx⟩ := hx
  refine ev_atom ⟨N, fun n hn => ?_⟩
  have e1 : atomR (partF n) n o q (h :: r) = parR (partF n) o q (h :: r) := by rw [← par_args]; simp [atomR, hk, ht]
  rw [e1]
  simp [parR, enterT, ht, ho, Rs.bind, hx n hn, passT, hg]
theorem ev_if {o q : Nat} {h g1 g2 : Tk} {r r1 r2 t : List Tk} {x y z : Ex} (hx : EvP 1 (o + 1) q r x (g1 :: r1)) (hy : EvP 1 (o + 1) q r1 y (g2 :: r2)) (hz : EvP 1 (o + 1) q r2 z t) (hk : h.k = 3) (ht : h.t = [105, 102]) (h1 : g1.t = [116, 104, 101, 110]) (h2 : g2.t = [101, 108, 115, 101]) (ho : o ≠ 64) :
    EvP 8 o q (h :: r) ⟨19, 0, [], h.a, ((one x).snoc y).snoc z⟩ t := by
  obtain ⟨N1, hx⟩ := hx
  obtain ⟨N2, hy⟩ := hy
  obtain ⟨N3, hz⟩ := hz
  refine ev_atom ⟨N1 + N2 + N3, fun n hn => ?_⟩
  have e1 : atomR (partF n) n o q (h :: r) = choiceR (partF n) o q (h :: r) := by simp [atomR, hk, ht]
  rw [e1]
  simp [choiceR, enterT, ht, ho, Rs.bind, hx n (by omega), passT, h1, hy n (by omega), h2, hz n (by omega)]
def EvA (j o q : Nat) (acc : Fs) (ts : List Tk) (ks : Fs) (t : List Tk) : Prop := ∃ N, ∀ n, N ≤ n → argsL (partF n) j o q acc ts = .ok ks t
theorem evA_nil (o q : Nat) (acc : Fs) (ts : List Tk) : EvA 0 o q acc ts acc ts := ⟨0, fun n _ => rfl⟩
theorem evA_cons {j o q : Nat} {acc ks : Fs} {h : Tk} {r r1 t : List Tk} {x : Ex} (hx : EvP 1 o q r x r1) (hr : EvA j o q (acc.snoc x) r1 ks t) (hh : h.t = [44]) : EvA (j + 1) o q acc (h :: r) ks t := by
  obtain ⟨N1, hx⟩ := hx
  obtain ⟨N2, hr⟩ := hr
  refine ⟨N1 + N2, fun n hn => ?_⟩
  simp only [argsL, passT, hh, if_true, Rs.bind, hx n (by omega)]
  exact hr n (by omega)
/-- Parts in parentheses. -/
theorem ev_args {many o q : Nat} {h g : Tk} {r r1 t : List Tk} {x : Ex} {ks : Fs} (hm : 1 ≤ many) (hx : EvP 1 (o + 1) q r x r1) (hr : EvA (many - 1) (o + 1) q (one x) r1 ks (g :: t)) (ht : h.t = [40]) (hg : g.t = [41]) (ho : o ≠ 64) : ∃ N, ∀ n, N ≤ n → argsR (partF n) many o q (h :: r) = .ok ks t := by
  obtain ⟨N1, hx⟩ := hx
  obtain ⟨N2, hr⟩ := hr
  refine ⟨N1 + N2, fun n hn => ?_⟩
  simp only [argsR, enterT, ht, if_true, ho, if_false, Rs.bind, hx n (by omega), hr n (by omega), passT, hg]
theorem ev_call {o q k many : Nat} {s0 : List UInt8} {h : Tk} {r t : List Tk} {ks : Fs} (ha : ∃ N, ∀ n, N ≤ n → argsR (partF n) many o q r = .ok ks t) (hk : h.k = 3) (hc : callAt h.t = some (s0, k, many)) : EvP 8 o q (h :: r) ⟨20, (k : Nat), [], h.a, ks⟩ t := by
  obtain ⟨N, ha⟩ := ha
  refine ev_atom ⟨N, fun n hn => ?_⟩
  have hm := List.mem_of_find?_eq_some hc
  have hp := List.find?_some hc
  simp only [beq_iff_eq] at hp
  have hp : s0 = h.t := hp
  subst hp
  have hne : ∀ z ∈ callsL, z.1 ≠ [102, 97, 108, 115, 101] ∧ z.1 ≠ [116, 114, 117, 101] ∧ z.1 ≠ [64] ∧ z.1 ≠ [40] ∧ z.1 ≠ [105, 102] := by decide
  obtain ⟨n1, n2, n3, n4, n5⟩ := hne _ hm
  have n1 : h.t ≠ _ := n1
  have n2 : h.t ≠ _ := n2
  have n3 : h.t ≠ _ := n3
  have n4 : h.t ≠ _ := n4
  have n5 : h.t ≠ _ := n5
  simp [atomR, hk, n1, n2, n3, n4, n5, hc, ha n hn, Rs.bind]
def EvM (o q : Nat) (acc : Fs) (ts : List Tk) (ks : Fs) (t : List Tk) : Prop := ∃ N, ∀ n m, N ≤ n → N ≤ m → memL (partF n) m o q acc ts = .ok ks t
theorem evM_nil {o q : Nat} {acc : Fs} {h : Tk} {r : List Tk} (hh : h.t ≠ [44]) : EvM o q acc (h :: r) acc (h :: r) := ⟨1, fun n m _ hm => by
  obtain ⟨m, rfl⟩ : ∃ k, m = k + 1 := ⟨m - 1, by omega⟩
  simp only [memL, hh, if_false]⟩
theorem evM_cons {o q : Nat} {acc ks : Fs} {h : Tk} {r r1 t : List Tk} {x : Ex} (hx : EvP 1 o q r x r1) (hr : EvM o q (acc.snoc x) r1 ks t) (hh : h.t = [44]) : EvM o q acc (h :: r) ks t := by
  obtain ⟨N1, hx⟩ := hx
  obtain ⟨N2, hr⟩ := hr
  refine ⟨N1 + N2 + 1, fun n m hn hm => ?_⟩
  obtain ⟨m, rfl⟩ : ∃ k, m = k + 1 := ⟨m - 1, by omega⟩
  simp only [memL, hh, if_true, Rs.bind, hx n (by omega)]
  exact hr n m (by omega) (by omega)
def EvS (o q : Nat) (ts : List Tk) (x : Ex) (t : List Tk) : Prop := ∃ N, ∀ n m, N ≤ n → N ≤ m → setR (partF n) m o q ts = .ok x t
theorem evS_name (o q : Nat) (h : Tk) (t : List Tk) (hk : h.k = 2) : EvS o q (h :: t) ⟨23, 0, h.t, h.a, .nil⟩ t := ⟨0, fun n m _ _ => by simp [setR, hk]⟩
theorem evS_all (o q : Nat) (h : Tk) (t : List Tk) (hk : h.k = 3) (ht : h.t = [118, 101, 114, 116, 105, 99, 101, 115]) : EvS o q (h :: t) ⟨22, 0, [], h.a, .nil⟩ t := ⟨0, fun n m _ _ => by simp [setR, hk, ht]⟩
theorem evS_around {o q : Nat} {h : Tk} {r t : List Tk} {ks : Fs} (ha : ∃ N, ∀ n, N ≤ n → argsR (partF n) 1 o q r = .ok ks t) (hk : h.k = 3) (ht : h.t = [97, 114, 111, 117, 110, 100]) : EvS o q (h :: r) ⟨24, 0, [], h.a, ks⟩ t := by
  obtain ⟨N, ha⟩ := ha
  exact ⟨N, fun n m hn _ => by simp [setR, hk, ht, ha n hn, Rs.bind]⟩
theorem evS_list {o q : Nat} {h g : Tk} {r t : List Tk} {ks : Fs} (hm : ∃ N, ∀ n m, N ≤ n → N ≤ m → memR (partF n) m (o + 1) q r = .ok ks (g :: t)) (hk : h.k = 4) (ht : h.t = [123]) (hg : g.t = [125]) (ho : o ≠ 64) : EvS o q (h :: r) ⟨25, 0, [], h.a, ks⟩ t := by
  obtain ⟨N, hm⟩ := hm
  exact ⟨N, fun n m hn hm' => by simp [setR, hk, ht, enterT, ho, hm n m hn hm', Rs.bind, passT, hg]⟩
theorem evR_nil (o q : Nat) (g : Tk) (t : List Tk) (hg : g.t = [125]) : ∃ N, ∀ n m, N ≤ n → N ≤ m → memR (partF n) m o q (g :: t) = .ok .nil (g :: t) := ⟨0, fun n m _ _ => by simp [memR, hg]⟩
theorem evR_cons {o q : Nat} {x0 : Tk} {r r1 t : List Tk} {x : Ex} {ks : Fs} (hx : EvP 1 o q (x0 :: r) x r1) (hr : EvM o q (one x) r1 ks t) (h0 : x0.t ≠ [125]) : ∃ N, ∀ n m, N ≤ n → N ≤ m → memR (partF n) m o q (x0 :: r) = .ok ks t := by
  obtain ⟨N1, hx⟩ := hx
  obtain ⟨N2, hr⟩ := hr
  exact ⟨N1 + N2, fun n m hn hm => by simp only [memR, h0, if_false, hx n (by omega), Rs.bind]; exact hr n m (by omega) (by omega)⟩
theorem ev_quant {o q k : Nat} {s0 : List UInt8} {h v g c : Tk} {r r1 t : List Tk} {e b : Ex} (he : EvS (o + 1) (q + 1) r e (c :: r1)) (hb : EvP 1 (o + 1) (q + 1) r1 b t) (hk : h.k = 3) (hq : quantAt h.t = some (s0, k)) (hv : v.k = 2) (hg : g.t = [105, 110]) (hc : c.t = [58]) (ho : o ≠ 64) (h4 : q ≠ 4) :
    EvP 8 o q (h :: v :: g :: r) ⟨21, (k : Nat), v.t, h.a, (one e).snoc b⟩ t := by
  obtain ⟨N1, he⟩ := he
  obtain ⟨N2, hb⟩ := hb
  refine ev_atom ⟨N1 + N2, fun n hn => ?_⟩
  have hm := List.mem_of_find?_eq_some hq
  have hp := List.find?_some hq
  simp only [beq_iff_eq] at hp
  have hp : s0 = h.t := hp
  subst hp
  have hne : ∀ z ∈ quantsL, z.1 ≠ [102, 97, 108, 115, 101] ∧ z.1 ≠ [116, 114, 117, 101] ∧ z.1 ≠ [64] ∧ z.1 ≠ [40] ∧ z.1 ≠ [105, 102] ∧ callAt z.1 = none := by decide
  obtain ⟨n1, n2, n3, n4, n5, n6⟩ := hne _ hm
  have n1 : h.t ≠ _ := n1
  have n2 : h.t ≠ _ := n2
  have n3 : h.t ≠ _ := n3
  have n4 : h.t ≠ _ := n4
  have n5 : h.t ≠ _ := n5
  have n6 : callAt h.t = none := n6
  have e1 : atomR (partF n) n o q (h :: v :: g :: r) = quantR (partF n) n h.t k o q (h :: v :: g :: r) := by simp [atomR, hk, n1, n2, n3, n4, n5, n6, hq]
  rw [e1]
  simp [quantR, h4, enterT, ho, Rs.bind, passK, hv, passT, hg, he n n (by omega) (by omega), hc, hb n (by omega)]
end Go.Proofs.YtlmeonpdjcophaaDoor
