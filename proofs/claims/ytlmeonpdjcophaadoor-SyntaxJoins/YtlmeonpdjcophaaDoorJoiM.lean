/- Two texts in parentheses with a sign between: tokens, and what they are read as. No program. -/
import Derived.Test.YtlmeonpdjcophaaDoorBrkM
namespace Go.Proofs.YtlmeonpdjcophaaDoor
set_option linter.unusedVariables false

/-- The signs, with their kinds and rows. -/
def sgnsL : List (List UInt8 × Nat × Nat) := [([97, 110, 100], 17, 2), ([111, 114], 18, 1), ([61], 13, 4), ([33, 61], 14, 4), ([60], 15, 4), ([60, 61], 16, 4), ([43], 8, 5), ([45], 9, 5), ([42], 10, 6), ([47], 11, 6), ([37], 12, 6)]
/-- A sign's token, and what stands behind it, a parenthesis first. -/
theorem lex_sign (z : List UInt8 × Nat × Nat) (hz : z ∈ sgnsL) (q : Nat) (m : List UInt8) : ∃ k, lexL 0 [] q q (z.1 ++ 40 :: m) = consR ⟨k, 0, z.1, q⟩ (lexL 0 [] (q + z.1.length) (q + z.1.length) (40 :: m)) ∧ k ≠ 0 := by
  have word : ∀ (u : List UInt8) (c : UInt8) (r : List UInt8), u = c :: r → cls c.toNat = 1 → (∀ j (h : j < r.length), tks 1 (c :: r.take j) (r[j]).toNat = true) → wordB u = true → lexL 0 [] q q (u ++ 40 :: m) = consR ⟨3, 0, u, q⟩ (lexL 0 [] (q + u.length) (q + u.length) (40 :: m)) := by
    intro u c r hu hc hr hw
    subst hu
    have hb : blk c.toNat = false := by
      cases h : blk c.toNat with
      | false => rfl
      | true => rw [cls, if_pos h] at hc; cases hc
    rw [List.cons_append, lexL_no (k := 0) (by exact hb), hc]
    show lexL 1 [c] q (q + 1) (r ++ 40 :: m) = _
    rw [lexL_end 1 [c] q (q + 1) r (40 :: m) hr (fun c' r' e => by injection e with e _; subst e; exact par_tks 40 (.inl rfl) 1 _ (by decide))]
    have e1 : q + 1 + r.length = q + (c :: r).length := by simp; omega
    rw [e1]
    simp [shutP, ptok, wrdT, hw]
  have two : ∀ (c : UInt8), (c = 33 ∨ c = 60) → lexL 0 [] q q ([c, 61] ++ 40 :: m) = consR ⟨4, 0, [c, 61], q⟩ (lexL 0 [] (q + 2) (q + 2) (40 :: m)) := by
    intro c hc
    have h0 : blk c.toNat = false := by rcases hc with rfl | rfl <;> rfl
    have h3 : cls c.toNat = 3 := by rcases hc with rfl | rfl <;> rfl
    show lexL 0 [] q q (c :: 61 :: 40 :: m) = _
    rw [lexL_no (k := 0) (by exact h0), h3]
    show lexL 3 [c] q (q + 1) (61 :: 40 :: m) = _
    rw [lexL_yes (k := 3) (by rcases hc with rfl | rfl <;> rfl), lexL_shut (par_tks 40 (.inl rfl) 3 _ (by decide))]
    show shutP 3 [c, 61] q _ = _
    simp [shutP, ptok, sgnT]
  have less : lexL 0 [] q q ([60] ++ 40 :: m) = consR ⟨4, 0, [60], q⟩ (lexL 0 [] (q + 1) (q + 1) (40 :: m)) := by
    show lexL 0 [] q q (60 :: 40 :: m) = _
    rw [lexL_no (k := 0) (by rfl), show cls (60 : UInt8).toNat = 3 from rfl]
    show lexL 3 [60] q (q + 1) (40 :: m) = _
    rw [lexL_shut (par_tks 40 (.inl rfl) 3 _ (by decide))]
    simp [shutP, ptok, sgnT]
  simp only [sgnsL, List.mem_cons, List.not_mem_nil, or_false] at hz
  rcases hz with rfl | rfl | rfl | rfl | rfl | rfl | rfl | rfl | rfl | rfl | rfl
  · exact ⟨3, word _ 97 [110, 100] rfl (by decide) (by decide) (by decide), by decide⟩
  · exact ⟨3, word _ 111 [114] rfl (by decide) (by decide) (by decide), by decide⟩
  · exact ⟨4, lex_one 61 q _ (by decide) (by decide) (by decide), by decide⟩
  · exact ⟨4, two 33 (.inl rfl), by decide⟩
  · exact ⟨4, less, by decide⟩
  · exact ⟨4, two 60 (.inr rfl), by decide⟩
  · exact ⟨4, lex_one 43 q _ (by decide) (by decide) (by decide), by decide⟩
  · exact ⟨4, lex_one 45 q _ (by decide) (by decide) (by decide), by decide⟩
  · exact ⟨4, lex_one 42 q _ (by decide) (by decide) (by decide), by decide⟩
  · exact ⟨4, lex_one 47 q _ (by decide) (by decide) (by decide), by decide⟩
  · exact ⟨4, lex_one 37 q _ (by decide) (by decide) (by decide), by decide⟩
theorem up_many {n o q : Nat} {x h : Tk} {l r : List Tk} {e : Ex} (hx1 : x.t ≠ [110, 111, 116]) (hx2 : x.t ≠ [45]) (k : Nat) (hk : k ≤ 8) (H : partF (n + 1) k o q (x :: l) = .ok e (h :: r)) : ∀ j, j < k → (∀ row, k - j ≤ row → row < k → opAt h.t row = none) → partF (n + 1 + j) (k - j) o q (x :: l) = .ok e (h :: r)
  | 0, hj, ho => H
  | j + 1, hj, ho => by
    have ih := up_many hx1 hx2 k hk H j (by omega) (fun row h1 h2 => ho row (by omega) h2)
    have e1 : k - j = (k - (j + 1)) + 1 := by omega
    rw [e1, show n + 1 + j = (n + j) + 1 by omega] at ih
    have := up_ok (by omega) hx1 hx2 (ho _ (Nat.le_refl _) (by omega)) ih
    rw [show n + 1 + (j + 1) = (n + j) + 2 by omega]
    exact this
/-- Two parts with a sign of a row between. -/
theorem chain_two {n r kd r0 ll rt : Nat} {s0 : List UInt8} {x sg E : Tk} {l T3 : List Tk} {e1 e2 : Ex} (h3 : r ≠ 3) (h7 : r ≠ 7) (h8 : r ≠ 8) (H1 : partF (n + 2) (r + 1) 0 0 (x :: l) = .ok e1 (sg :: T3)) (hop : opAt sg.t r = some (s0, kd, r0, ll, rt)) (H3 : partF (n + 2) rt 0 0 T3 = .ok e2 [E]) (hE : E.t = []) :
    partF (n + 3) r 0 0 (x :: l) = .ok ⟨(kd : Nat), 0, [], sg.a, (one e1).snoc e2⟩ [E] := by
  show partF ((n + 2) + 1) r 0 0 (x :: l) = _
  have no : opAt E.t r = none := by rw [hE]; simp [opAt, opsL]
  rw [partF, if_neg h3, if_neg h7, if_neg h8, H1]
  show chainL (partF (n + 2)) (n + 2) r 0 0 e1 (sg :: T3) = _
  show chainL (partF (n + 2)) ((n + 1) + 1) r 0 0 e1 (sg :: T3) = _
  simp only [chainL, hop, H3, Rs.bind]
  split
  · rfl
  · show chainL (partF (n + 2)) (n + 1) r 0 0 _ [E] = _
    simp only [chainL, no]
theorem mvT_zero (us : List Tk) : us.map (mvT 0) = us := by
  have : (mvT 0) = id := by funext x; rfl
  rw [this, List.map_id]
theorem mvT_mvT (d q : Nat) (us : List Tk) : (us.map (mvT d)).map (mvT q) = us.map (mvT (d + q)) := by
  rw [List.map_map]
  congr 1
  funext x
  simp [mvT, Nat.add_assoc]
/-- What stands in parentheses, where it is not too deep. -/
theorem par_inside {s : List UInt8} {x : Ex} {t : List Tk} (h : parseA s = .ok x t) (hl : s.length + 2 ≤ 2000) {y : Ex} {t' : List Tk} (h' : parseA (40 :: (s ++ [41])) = .ok y t') :
    ∃ us, lexA s = .inr (us ++ [⟨0, 0, [], s.length⟩]) ∧ us.length ≤ s.length ∧ partF 29992 1 1 0 (us.map (mvT 1) ++ [⟨4, 0, [41], 1 + s.length⟩, ⟨0, 0, [], 2 + s.length⟩]) = .ok (x.mv 1) [⟨4, 0, [41], 1 + s.length⟩, ⟨0, 0, [], 2 + s.length⟩] := by
  obtain ⟨us, E, h0, h1, rfl, h2, h3, h4⟩ := parse_ok h
  refine ⟨us, h1, h2, ?_⟩
  have S : Stops 1 1 [⟨0, 0, [], s.length⟩] [⟨4, 0, [41], 1 + s.length⟩, ⟨0, 0, [], 2 + s.length⟩] := ⟨fun _ => by omega, ⟨_, _, rfl, .inl ⟨rfl, rfl⟩⟩, ⟨_, _, rfl, rfl, rfl⟩⟩
  have hlen : (us ++ [(⟨0, 0, [], s.length⟩ : Tk)]).length ≤ 2001 := by simp; omega
  rw [part_same (n' := 29992) (by omega) (wft_end us s.length) (by omega) (by omega)] at h4
  obtain ⟨u, hu, h7⟩ := sim_part S 29992 1 0 0 us x _ h4 (by simp)
  have hu0 : u = [] := by
    have := congrArg List.length hu
    simp at this
    exact this
  subst hu0
  rcases h7 with h7 | ⟨_, a, h7, ha⟩
  · exact h7
  · exfalso
    have A := par_atom 29992 0 0 0 (us.map (mvT 1) ++ [⟨4, 0, [41], 1 + s.length⟩, ⟨0, 0, [], 2 + s.length⟩]) (by omega)
    rw [h7] at A
    have A : partF 29993 8 0 0 (⟨4, 0, [40], 0⟩ :: (us.map (mvT 1) ++ [⟨4, 0, [41], 1 + s.length⟩, ⟨0, 0, [], 2 + s.length⟩])) = .bad 121 a := A
    have hx1 : (⟨4, 0, [40], 0⟩ : Tk).t ≠ [110, 111, 116] := by decide
    have hx2 : (⟨4, 0, [40], 0⟩ : Tk).t ≠ [45] := by decide
    have A := up_bad (row := 7) (by decide) hx1 hx2 A
    have A := up_bad (row := 6) (by decide) hx1 hx2 A
    have A := up_bad (row := 5) (by decide) hx1 hx2 A
    have A := up_bad (row := 4) (by decide) hx1 hx2 A
    have A := up_bad (row := 3) (by decide) hx1 hx2 A
    have A := up_bad (row := 2) (by decide) hx1 hx2 A
    have A := up_bad (row := 1) (by decide) hx1 hx2 A
    obtain ⟨vs, h5, h6⟩ := lex_par 0 s [] _ h1
    have hv : us = vs := List.append_inj_left' h5 rfl
    subst hv
    have hs : scanA (40 :: (s ++ [41])) = .inr (⟨4, 0, [40], 0⟩ :: (us.map (mvT 1) ++ [⟨4, 0, [41], 1 + s.length⟩, ⟨0, 0, [], 2 + s.length⟩])) := by
      rw [scan_short (by simp; omega)]
      show lexL 0 [] 0 0 _ = _
      rw [h6]
      have e1 : lexL 0 [] (0 + 2 + s.length) (0 + 2 + s.length) [] = .inr [⟨0, 0, [], 0 + 2 + s.length⟩] := rfl
      rw [e1, preR_inr]
      simp only [Nat.zero_add, List.cons_append, List.append_assoc, List.nil_append]
    unfold parseA at h'
    rw [hs] at h'
    have h' : readF 30000 (⟨4, 0, [40], 0⟩ :: (us.map (mvT 1) ++ [⟨4, 0, [41], 1 + s.length⟩, ⟨0, 0, [], 2 + s.length⟩])) = .ok y t' := h'
    unfold readF at h'
    rw [A] at h'
    cases h'
/-- A text in parentheses, anywhere. -/
theorem par_any {s : List UInt8} {us : List Tk} {x : Ex} (hl : us.length ≤ 2000) (h : partF 29992 1 1 0 (us.map (mvT 1) ++ [⟨4, 0, [41], 1 + s.length⟩, ⟨0, 0, [], 2 + s.length⟩]) = .ok x [⟨4, 0, [41], 1 + s.length⟩, ⟨0, 0, [], 2 + s.length⟩]) (a q p : Nat) (z : Tk) (r : List Tk) :
    partF 29993 8 0 0 (⟨4, 0, [40], a⟩ :: (us.map (mvT (q + 1)) ++ ⟨4, 0, [41], p⟩ :: z :: r)) = .ok (x.mv q) (z :: r) := by
  have S : Stops 0 q [⟨4, 0, [41], 1 + s.length⟩, ⟨0, 0, [], 2 + s.length⟩] (⟨4, 0, [41], p⟩ :: z :: r) := ⟨fun h => absurd rfl h, ⟨_, _, rfl, .inr ⟨rfl, rfl⟩⟩, ⟨_, _, rfl, rfl, rfl⟩⟩
  obtain ⟨u, hu, h7⟩ := sim_part S 29992 1 1 0 (us.map (mvT 1)) x _ h (Nat.le_refl _)
  have hu0 : u = [] := by
    have := congrArg List.length hu
    simp at this
    exact this
  subst hu0
  rw [par_atom 29992 0 0 a _ (by omega)]
  rcases h7 with h7 | ⟨h7, _⟩
  · rw [mvT_mvT, Nat.add_comm 1 q] at h7
    rw [h7]
    rfl
  · exact absurd rfl h7
theorem sgn_row (z : List UInt8 × Nat × Nat) (hz : z ∈ sgnsL) : ∃ s0 r0 ll rt, opAt z.1 z.2.2 = some (s0, z.2.1, r0, ll, rt) ∧ z.2.2 < rt ∧ rt ≤ 8 ∧ 1 ≤ z.2.2 ∧ z.2.2 ≤ 6 ∧ z.2.2 ≠ 3 ∧ (∀ row, z.2.2 < row → row < 8 → opAt z.1 row = none) := by
  have none7 : ∀ (t : List UInt8) (r : Nat), (opsL.all fun o => !(o.1 == t) || decide (o.2.2.1 ≤ r)) = true → ∀ row, r < row → row < 8 → opAt t row = none := by
    intro t r h row h1 _
    unfold opAt
    rw [List.find?_eq_none]
    intro o ho hp
    have := List.all_eq_true.1 h o ho
    simp only [Bool.and_eq_true, beq_iff_eq] at hp
    simp [hp.1] at this
    omega
  simp only [sgnsL, List.mem_cons, List.not_mem_nil, or_false] at hz
  rcases hz with rfl | rfl | rfl | rfl | rfl | rfl | rfl | rfl | rfl | rfl | rfl
  all_goals exact ⟨_, _, _, _, rfl, by decide, by decide, by decide, by decide, by decide, none7 _ _ (by decide)⟩
/-- Two texts in parentheses with a sign between. -/
theorem parse_join {a b : List UInt8} {x y x' y' : Ex} {ta tb ta' tb' : List Tk} (ha : parseA a = .ok x ta) (hb : parseA b = .ok y tb) (ha' : parseA (40 :: (a ++ [41])) = .ok x' ta') (hb' : parseA (40 :: (b ++ [41])) = .ok y' tb')
    (z : List UInt8 × Nat × Nat) (hz : z ∈ sgnsL) (hl : a.length + b.length + 4 + z.1.length ≤ 2000) :
    ∃ q t, parseA (40 :: (a ++ 41 :: (z.1 ++ 40 :: (b ++ [41])))) = .ok ⟨(z.2.1 : Nat), 0, [], ((a.length + 2 : Nat) : Int), (one ((x.mv 1).mv 0)).snoc ((y.mv 1).mv q)⟩ t := by
  obtain ⟨ua, a1, a2, a3⟩ := par_inside ha (by omega) ha'
  obtain ⟨ub, b1, b2, b3⟩ := par_inside hb (by omega) hb'
  obtain ⟨va, a4, a5⟩ := lex_par 0 a (z.1 ++ 40 :: (b ++ [41])) _ a1
  have hva : ua = va := List.append_inj_left' a4 rfl
  subst hva
  obtain ⟨k, s1, s2⟩ := lex_sign z hz (0 + 2 + a.length) (b ++ [41])
  obtain ⟨vb, b4, b5⟩ := lex_par (0 + 2 + a.length + z.1.length) b [] _ b1
  have hvb : ub = vb := List.append_inj_left' b4 rfl
  subst hvb
  generalize hq : 0 + 2 + a.length + z.1.length = q at *
  have e1 : lexL 0 [] (q + 2 + b.length) (q + 2 + b.length) [] = .inr [⟨0, 0, [], q + 2 + b.length⟩] := rfl
  rw [e1, preR_inr] at b5
  rw [b5] at s1
  rw [s1] at a5
  have hs : scanA (40 :: (a ++ 41 :: (z.1 ++ 40 :: (b ++ [41])))) = .inr (⟨4, 0, [40], 0⟩ :: (ua.map (mvT 1) ++ ⟨4, 0, [41], 1 + a.length⟩ :: ⟨k, 0, z.1, 2 + a.length⟩ :: ⟨4, 0, [40], q⟩ :: (ub.map (mvT (q + 1)) ++ [⟨4, 0, [41], q + 1 + b.length⟩, ⟨0, 0, [], q + 2 + b.length⟩]))) := by
    rw [scan_short (by simp; omega)]
    show lexL 0 [] 0 0 _ = _
    rw [a5]
    show preR _ (.inr _) = _
    rw [preR_inr]
    simp only [Nat.zero_add, List.cons_append, List.append_assoc, List.nil_append]
  obtain ⟨s0, r0, ll, rt, o1, o2, o3, o4, o5, o6, o7⟩ := sgn_row z hz
  refine ⟨q, [⟨0, 0, [], q + 2 + b.length⟩], ?_⟩
  have A := par_any (by omega) a3 0 0 (1 + a.length) ⟨k, 0, z.1, 2 + a.length⟩ (⟨4, 0, [40], q⟩ :: (ub.map (mvT (q + 1)) ++ [⟨4, 0, [41], q + 1 + b.length⟩, ⟨0, 0, [], q + 2 + b.length⟩]))
  have B := par_any (by omega) b3 q q (q + 1 + b.length) ⟨0, 0, [], q + 2 + b.length⟩ []
  have hx1 : ∀ p, (⟨4, 0, [40], p⟩ : Tk).t ≠ [110, 111, 116] := fun p => by simp
  have hx2 : ∀ p, (⟨4, 0, [40], p⟩ : Tk).t ≠ [45] := fun p => by simp
  have A2 := up_many (hx1 _) (hx2 _) 8 (by omega) A (7 - z.2.2) (by omega) (fun row h1 h2 => o7 row (by omega) h2)
  have B2 := up_many (hx1 _) (hx2 _) 8 (by omega) B (8 - rt) (by omega) (fun row h1 h2 => by simp [opAt, opsL])
  rw [show 8 - (7 - z.2.2) = z.2.2 + 1 by omega, show 29992 + 1 + (7 - z.2.2) = (29998 - z.2.2) + 2 by omega] at A2
  rw [show 8 - (8 - rt) = rt by omega] at B2
  have hlb : (⟨4, 0, [40], q⟩ :: (ub.map (mvT (q + 1)) ++ [⟨4, 0, [41], q + 1 + b.length⟩, ⟨0, 0, [], q + 2 + b.length⟩]) : List Tk).length ≤ 2003 := by simp only [List.length_cons, List.length_append, List.length_map, List.length_nil]; omega
  have wft : WFT (⟨4, 0, [40], q⟩ :: (ub.map (mvT (q + 1)) ++ [⟨4, 0, [41], q + 1 + b.length⟩, ⟨0, 0, [], q + 2 + b.length⟩])) := by
    have := wft_end (⟨4, 0, [40], q⟩ :: (ub.map (mvT (q + 1)) ++ [⟨4, 0, [41], q + 1 + b.length⟩])) (q + 2 + b.length)
    simpa using this
  rw [part_same (n' := (29998 - z.2.2) + 2) o3 wft (by omega) (by omega)] at B2
  have C := chain_two (by omega) (by omega) (by omega) A2 o1 B2 rfl
  have hc : (29998 - z.2.2) + 3 = (30000 - z.2.2) + 1 := by omega
  rw [hc] at C
  have C2 := up_many (hx1 _) (hx2 _) z.2.2 (by omega) C (z.2.2 - 1) (by omega) (fun row h1 h2 => by simp [opAt, opsL])
  rw [show z.2.2 - (z.2.2 - 1) = 1 by omega, show 30000 - z.2.2 + 1 + (z.2.2 - 1) = 30000 by omega] at C2
  unfold parseA
  rw [hs]
  show readF 30000 _ = _
  unfold readF
  rw [C2]
  show Rs.ok _ _ = Rs.ok _ _
  congr 3
  simp
  omega
end Go.Proofs.YtlmeonpdjcophaaDoor
