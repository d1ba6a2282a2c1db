/- Bounds of tokens. No program. -/
import Derived.Test.YtfpmaeflmboalaaGreatDoorLexW
namespace Go.Proofs.YtfpmaeflmboalaaGreatDoor
set_option linter.unusedVariables false

theorem consR_inl {x : Tk} {X : Res} {e : Nat × Nat} (h : consR x X = .inl e) : X = .inl e := by
  cases X with
  | inl e' => exact h
  | inr l => cases h
theorem consR_inr {x : Tk} {X : Res} {ts : List Tk} (h : consR x X = .inr ts) : ∃ us, X = .inr us ∧ ts = x :: us := by
  cases X with
  | inl e => cases h
  | inr l =>
    refine ⟨l, rfl, ?_⟩
    injection h with h
    exact h.symm
/-- How a shut piece ends in an error. -/
theorem shut_inl {k : Nat} {t : List UInt8} {a e q : Nat} {X : Res} (h : shutP k t a X = .inl (e, q)) : (k ≠ 0 ∧ ptok k t a = .inl e ∧ q = a) ∨ (X = .inl (e, q) ∧ (k = 0 ∨ ∃ x, ptok k t a = .inr x)) := by
  unfold shutP at h
  by_cases hk : k = 0
  · rw [if_pos hk] at h
    exact .inr ⟨h, .inl hk⟩
  · rw [if_neg hk] at h
    cases hp : ptok k t a with
    | inl e' =>
      rw [hp] at h
      simp only at h
      injection h with h
      injection h with h1 h2
      exact .inl ⟨hk, by rw [h1], h2.symm⟩
    | inr x =>
      rw [hp] at h
      exact .inr ⟨consR_inl h, .inr ⟨x, rfl⟩⟩
theorem shut_inr {k : Nat} {t : List UInt8} {a : Nat} {X : Res} {ts : List Tk} (h : shutP k t a X = .inr ts) : (k = 0 ∧ X = .inr ts) ∨ (k ≠ 0 ∧ ∃ x us, ptok k t a = .inr x ∧ X = .inr us ∧ ts = x :: us) := by
  unfold shutP at h
  by_cases hk : k = 0
  · rw [if_pos hk] at h
    exact .inl ⟨hk, h⟩
  · rw [if_neg hk] at h
    cases hp : ptok k t a with
    | inl e' => rw [hp] at h; cases h
    | inr x =>
      rw [hp] at h
      obtain ⟨us, h1, h2⟩ := consR_inr h
      exact .inr ⟨hk, x, us, rfl, h1, h2⟩
/-- A piece that is shut without a fault. -/
theorem shut_good {k : Nat} {t : List UInt8} {a : Nat} (h : k = 0 ∨ ∃ x, ptok k t a = .inr x) (X : Res) : (∀ e, X = .inl e → shutP k t a X = .inl e) ∧ (∀ ts, X = .inr ts → ∃ us, shutP k t a X = .inr us) := by
  unfold shutP
  by_cases hk : k = 0
  · rw [if_pos hk]
    exact ⟨fun e h => h, fun ts h => ⟨ts, h⟩⟩
  · rw [if_neg hk]
    rcases h with h | ⟨x, h⟩
    · exact absurd h hk
    · rw [h]
      exact ⟨fun e h => by rw [h]; rfl, fun ts h => ⟨x :: ts, by rw [h]; rfl⟩⟩
theorem err_place (k : Nat) (t : List UInt8) (a p : Nat) (l : List UInt8) (e q : Nat) (h : lexL k t a p l = .inl (e, q)) : (k ≠ 0 ∧ q = a) ∨ (p ≤ q ∧ q < p + l.length) := by
  induction l generalizing k t a p with
  | nil =>
    rcases shut_inl h with ⟨h1, _, h2⟩ | ⟨h1, _⟩
    · exact .inl ⟨h1, h2⟩
    · cases h1
  | cons c r ih =>
    simp only [List.length_cons]
    cases ht : tks k t c.toNat
    · rw [lexL_no ht] at h
      rcases shut_inl h with ⟨h1, _, h2⟩ | ⟨h1, _⟩
      · exact .inl ⟨h1, h2⟩
      · rcases ih _ _ _ _ h1 with ⟨_, h2⟩ | ⟨h2, h3⟩
        · exact .inr ⟨by omega, by omega⟩
        · exact .inr ⟨by omega, by omega⟩
    · rw [lexL_yes ht] at h
      rcases ih _ _ _ _ h with h2 | ⟨h2, h3⟩
      · exact .inl h2
      · exact .inr ⟨by omega, by omega⟩
theorem err_kind (k : Nat) (t : List UInt8) (a p : Nat) (l : List UInt8) (e q : Nat) (h : lexL k t a p l = .inl (e, q)) : e = 110 ∨ e = 111 ∨ e = 112 := by
  induction l generalizing k t a p with
  | nil =>
    rcases shut_inl h with ⟨h1, h2, _⟩ | ⟨h1, _⟩
    · exact ptok_err h2
    · cases h1
  | cons c r ih =>
    cases ht : tks k t c.toNat
    · rw [lexL_no ht] at h
      rcases shut_inl h with ⟨h1, h2, _⟩ | ⟨h1, _⟩
      · exact ptok_err h2
      · exact ih _ _ _ _ h1
    · rw [lexL_yes ht] at h
      exact ih _ _ _ _ h
theorem shut_end {k : Nat} {t : List UInt8} {a : Nat} (h : k = 0 ∨ ∃ x, ptok k t a = .inr x) (p : Nat) : ∃ us, shutP k t a (endR p) = .inr us := (shut_good h (endR p)).2 _ rfl
/-- What stands ahead of a fault is taken. -/
theorem err_ahead (k : Nat) (t : List UInt8) (a p : Nat) (l : List UInt8) (e q : Nat) (h : lexL k t a p l = .inl (e, q)) (hq : p ≤ q) (ha : k = 0 ∨ a < p) : ∃ ts, lexL k t a p (l.take (q - p)) = .inr ts := by
  induction l generalizing k t a p with
  | nil =>
    rcases shut_inl h with ⟨h1, _, h2⟩ | ⟨h1, _⟩
    · omega
    · cases h1
  | cons c r ih =>
    cases ht : tks k t c.toNat
    · rw [lexL_no ht] at h
      rcases shut_inl h with ⟨h1, _, h2⟩ | ⟨h1, hg⟩
      · omega
      · rcases err_place _ _ _ _ _ _ _ h1 with ⟨_, h2⟩ | ⟨h2, _⟩
        · rw [h2, Nat.sub_self]
          exact shut_end hg p
        · obtain ⟨ts, h3⟩ := ih _ _ _ _ h1 h2 (.inr (by omega))
          have e1 : q - p = (q - (p + 1)) + 1 := by omega
          rw [e1, List.take_succ_cons, lexL_no ht]
          exact (shut_good hg _).2 _ h3
    · rw [lexL_yes ht] at h
      rcases err_place _ _ _ _ _ _ _ h with ⟨h1, h2⟩ | ⟨h2, _⟩
      · omega
      · obtain ⟨ts, h3⟩ := ih _ _ _ _ h h2 (by rcases ha with h | h; exact .inl h; exact .inr (by omega))
        have e1 : q - p = (q - (p + 1)) + 1 := by omega
        rw [e1, List.take_succ_cons, lexL_yes ht]
        exact ⟨ts, h3⟩
/-- A fault at the open piece is its own. -/
theorem err_own (k : Nat) (t : List UInt8) (a p : Nat) (l : List UInt8) (e : Nat) (h : lexL k t a p l = .inl (e, a)) (ha : a < p) : ∃ u, ptok k (t ++ u) a = .inl e ∧ k ≠ 0 := by
  induction l generalizing t p with
  | nil =>
    rcases shut_inl h with ⟨h1, h2, _⟩ | ⟨h1, _⟩
    · exact ⟨[], by rw [List.append_nil]; exact h2, h1⟩
    · cases h1
  | cons c r ih =>
    cases ht : tks k t c.toNat
    · rw [lexL_no ht] at h
      rcases shut_inl h with ⟨h1, h2, _⟩ | ⟨h1, _⟩
      · exact ⟨[], by rw [List.append_nil]; exact h2, h1⟩
      · rcases err_place _ _ _ _ _ _ _ h1 with ⟨_, h2⟩ | ⟨h2, _⟩ <;> omega
    · rw [lexL_yes ht] at h
      obtain ⟨u, h1, h2⟩ := ih _ _ h (by omega)
      exact ⟨c :: u, by rw [← h1]; simp, h2⟩
theorem tok_byte {k : Nat} {t : List UInt8} {a : Nat} (h : ptok k t a = .inl 110) (h0 : k ≠ 0) (hk : k ≤ 4) : k = 4 ∨ t = [33] := by
  unfold ptok at h
  split at h
  · unfold wrdT at h
    repeat' split at h
    all_goals first | (injection h with h; omega) | cases h
  · unfold numT at h
    repeat' split at h
    all_goals first | (injection h with h; omega) | cases h
  · unfold sgnT at h
    split at h
    · rename_i h1
      exact .inr h1
    · cases h
  · rename_i h1 h2 h3
    left
    have : ¬ k = 1 := h1
    have : ¬ k = 2 := h2
    have : ¬ k = 3 := h3
    omega
/-- A byte with which nothing begins is refused, whatever stands behind it. -/
theorem err_byte (k : Nat) (t : List UInt8) (a p : Nat) (l m : List UInt8) (q : Nat) (h : lexL k t a p l = .inl (110, q)) (hq : p ≤ q) (ha : k = 0 ∨ a < p) (hn : l[q - p]? ≠ some 33) : lexL k t a p (l.take (q - p + 1) ++ m) = .inl (110, q) := by
  induction l generalizing k t a p with
  | nil =>
    rcases shut_inl h with ⟨h1, _, h2⟩ | ⟨h1, _⟩
    · omega
    · cases h1
  | cons c r ih =>
    cases ht : tks k t c.toNat
    · rw [lexL_no ht] at h
      rcases shut_inl h with ⟨h1, _, h2⟩ | ⟨h1, hg⟩
      · omega
      · rcases err_place _ _ _ _ _ _ _ h1 with ⟨_, h2⟩ | ⟨h2, _⟩
        · subst h2
          rw [Nat.sub_self]
          rw [Nat.sub_self] at hn
          obtain ⟨u, h3, h4⟩ := err_own _ _ _ _ _ _ h1 (by omega)
          have hcl : cls c.toNat = 4 := by
            rcases tok_byte h3 h4 (by unfold cls; repeat' split
                                      all_goals omega) with h5 | h5
            · exact h5
            · exfalso
              apply hn
              have : c = 33 := by
                have := congrArg List.head? h5
                simpa using this
              simp [this]
          show lexL k t a q (c :: (r.take 0 ++ m)) = _
          rw [lexL_no ht, hcl, lexL_four]
          exact (shut_good hg _).1 _ rfl
        · have e1 : q - p = (q - (p + 1)) + 1 := by omega
          have h3 := ih _ _ _ _ h1 h2 (.inr (by omega)) (by rw [e1] at hn; simpa using hn)
          have e2 : q - p + 1 = (q - (p + 1) + 1) + 1 := by omega
          rw [e2, List.take_succ_cons, List.cons_append, lexL_no ht]
          exact (shut_good hg _).1 _ h3
    · rw [lexL_yes ht] at h
      rcases err_place _ _ _ _ _ _ _ h with ⟨h1, h2⟩ | ⟨h2, _⟩
      · omega
      · have e1 : q - p = (q - (p + 1)) + 1 := by omega
        have h3 := ih _ _ _ _ h h2 (by rcases ha with h | h; exact .inl h; exact .inr (by omega)) (by rw [e1] at hn; simpa using hn)
        have e2 : q - p + 1 = (q - (p + 1) + 1) + 1 := by omega
        rw [e2, List.take_succ_cons, List.cons_append, lexL_yes ht]
        exact h3
/-- Scan's own. -/
theorem scan_short {l : List UInt8} (h : l.length ≤ 2000) : scanA l = lexA l := by
  unfold scanA
  rw [if_neg (by omega)]
theorem scan_err {l : List UInt8} {e q : Nat} (h : scanA l = .inl (e, q)) (he : e ≠ 113) : l.length ≤ 2000 ∧ lexA l = .inl (e, q) ∧ q < l.length ∧ (e = 110 ∨ e = 111 ∨ e = 112) := by
  unfold scanA at h
  split at h
  · injection h with h
    injection h with h1 h2
    omega
  · refine ⟨by omega, h, ?_, err_kind _ _ _ _ _ _ _ h⟩
    rcases err_place _ _ _ _ _ _ _ h with ⟨h1, _⟩ | ⟨_, h1⟩
    · exact absurd rfl h1
    · omega
theorem scan_ahead {l : List UInt8} {e q : Nat} (h : scanA l = .inl (e, q)) (he : e ≠ 113) : ∃ ts, scanA (l.take q) = .inr ts := by
  obtain ⟨h1, h2, h3, _⟩ := scan_err h he
  rw [scan_short (by simp; omega)]
  exact err_ahead _ _ _ _ _ _ _ h2 (by omega) (.inl rfl)
theorem scan_byte {l m : List UInt8} {q : Nat} (h : scanA l = .inl (110, q)) (hn : l[q]? ≠ some 33) (hm : l.length + m.length ≤ 2000) : scanA (l.take (q + 1) ++ m) = .inl (110, q) := by
  obtain ⟨h1, h2, h3, _⟩ := scan_err h (by omega)
  rw [scan_short (by simp; omega)]
  exact err_byte _ _ _ _ _ m _ h2 (by omega) (.inl rfl) hn
end Go.Proofs.YtfpmaeflmboalaaGreatDoor
namespace Go.Proofs.YtfpmaeflmboalaaGreatDoor
set_option linter.unusedVariables false

/-- Places by d more. -/
def mvT (d : Nat) (x : Tk) : Tk := ⟨x.k, x.n, x.t, x.a + d⟩
def mvR (d : Nat) : Res → Res
  | .inl (e, q) => .inl (e, q + d)
  | .inr ts => .inr (ts.map (mvT d))
theorem consR_mv (d : Nat) (x : Tk) (X : Res) : consR (mvT d x) (mvR d X) = mvR d (consR x X) := by
  cases X with
  | inl e => rfl
  | inr l => rfl
/-- A token's place is the piece's own. -/
theorem ptok_inr {k : Nat} {t : List UInt8} {a : Nat} {x : Tk} (h : ptok k t a = .inr x) : x.a = a ∧ ∀ a', ptok k t a' = .inr ⟨x.k, x.n, x.t, a'⟩ := by
  unfold ptok at h ⊢
  split at h
  · unfold wrdT at h ⊢
    split at h
    · rename_i h1
      injection h with h
      subst h
      exact ⟨rfl, fun a' => by rw [if_pos h1]⟩
    · rename_i h1
      split at h
      · rename_i h2
        injection h with h
        subst h
        exact ⟨rfl, fun a' => by rw [if_neg h1, if_pos h2]⟩
      · cases h
  · unfold numT at h ⊢
    cases ha : Lib.atoiAll t with
    | ok v =>
      rw [ha] at h
      simp only at h ⊢
      split at h
      · cases h
      · rename_i h1
        injection h with h
        subst h
        exact ⟨rfl, fun a' => by rw [if_neg h1]⟩
    | _ => rw [ha] at h; cases h
  · unfold sgnT at h ⊢
    split at h
    · cases h
    · rename_i h1
      injection h with h
      subst h
      exact ⟨rfl, fun a' => by rw [if_neg h1]⟩
  · cases h
theorem ptok_inl {k : Nat} {t : List UInt8} {a e : Nat} (h : ptok k t a = .inl e) (a' : Nat) : ptok k t a' = .inl e := by
  unfold ptok at h ⊢
  split at h
  · show wrdT t a' = _
    unfold wrdT at h ⊢
    split at h
    · cases h
    · rename_i h1
      rw [if_neg h1]
      split at h
      · cases h
      · rename_i h2
        rw [if_neg h2]
        exact h
  · show numT t a' = _
    unfold numT at h ⊢
    cases ha : Lib.atoiAll t with
    | ok v =>
      rw [ha] at h
      simp only at h ⊢
      split at h
      · rename_i h1
        rw [if_pos h1]
        exact h
      · cases h
    | _ => rw [ha] at h; exact h
  · show sgnT t a' = _
    unfold sgnT at h ⊢
    split at h
    · rename_i h1
      rw [if_pos h1]
      exact h
    · cases h
  · exact h
theorem shutP_mv (k : Nat) (t : List UInt8) (a d : Nat) (X : Res) : shutP k t (a + d) (mvR d X) = mvR d (shutP k t a X) := by
  unfold shutP
  by_cases hk : k = 0
  · rw [if_pos hk, if_pos hk]
  · rw [if_neg hk, if_neg hk]
    cases hp : ptok k t a with
    | inl e => rw [ptok_inl hp]; rfl
    | inr x =>
      obtain ⟨h1, h2⟩ := ptok_inr hp
      rw [h2 (a + d)]
      simp only
      rw [← consR_mv]
      congr 1
      unfold mvT
      rw [h1]
theorem lexL_mv (k : Nat) (t : List UInt8) (a p d : Nat) (l : List UInt8) : lexL k t (a + d) (p + d) l = mvR d (lexL k t a p l) := by
  induction l generalizing k t a p with
  | nil =>
    rw [lexL_nil, lexL_nil, ← shutP_mv]
    rfl
  | cons c r ih =>
    cases ht : tks k t c.toNat
    · rw [lexL_no ht, lexL_no ht, ← shutP_mv, ← ih]
      congr 2
      omega
    · rw [lexL_yes ht, lexL_yes ht, ← ih]
      congr 1
      omega
theorem tks_blank (k : Nat) (t : List UInt8) (c : Nat) (hb : blk c = true) (hk : k ≠ 0) : tks k t c = false := by
  have hc : c = 32 ∨ c = 9 ∨ c = 10 ∨ c = 13 := by simpa [blk, or_assoc] using hb
  unfold tks
  split
  · exact absurd rfl hk
  · rcases hc with rfl | rfl | rfl | rfl <;> rfl
  · rcases hc with rfl | rfl | rfl | rfl <;> rfl
  · rcases hc with rfl | rfl | rfl | rfl <;> rfl
  · rfl
/-- A text that is taken, and a blank behind it: what follows is read as it stands. -/
theorem lexL_then (k : Nat) (t : List UInt8) (a p : Nat) (l : List UInt8) (ts : List Tk) (c : UInt8) (m : List UInt8) (hb : blk c.toNat = true) (h : lexL k t a p l = .inr ts) :
    ∃ us, ts = us ++ [⟨0, 0, [], p + l.length⟩] ∧ lexL k t a p (l ++ c :: m) = preR us (lexL 0 [] (p + l.length) (p + l.length) (c :: m)) := by
  induction l generalizing k t a p ts with
  | nil =>
    rcases shut_inr h with ⟨rfl, h1⟩ | ⟨hk, x, us, hp, h1, h2⟩
    · injection h1 with h1
      exact ⟨[], h1.symm, lexL_blank _ _ _ _ _ _⟩
    · injection h1 with h1
      subst h1
      refine ⟨[x], h2, ?_⟩
      simp only [List.nil_append, List.length_nil, Nat.add_zero]
      rw [lexL_shut (tks_blank k t _ hb hk)]
      unfold shutP
      rw [if_neg hk, hp]
      rfl
  | cons d r ih =>
    have e1 : p + (d :: r).length = p + 1 + r.length := by simp; omega
    rw [e1]
    cases ht : tks k t d.toNat
    · rw [lexL_no ht] at h
      rw [List.cons_append, lexL_no ht]
      rcases shut_inr h with ⟨rfl, h1⟩ | ⟨hk, x, us, hp, h1, h2⟩
      · obtain ⟨vs, h3, h4⟩ := ih _ _ _ _ _ h1
        refine ⟨vs, h3, ?_⟩
        rw [h4]
        rfl
      · obtain ⟨vs, h3, h4⟩ := ih _ _ _ _ _ h1
        refine ⟨x :: vs, by rw [h2, h3]; rfl, ?_⟩
        rw [h4]
        unfold shutP
        rw [if_neg hk, hp]
        rfl
    · rw [lexL_yes ht] at h
      rw [List.cons_append, lexL_yes ht]
      exact ih _ _ _ _ _ h
/-- Two texts with a blank between. -/
theorem scan_joins {l m : List UInt8} {ts us : List Tk} (hl : scanA l = .inr ts) (hm : scanA m = .inr us) (h : l.length + m.length < 2000) :
    ∃ vs, ts = vs ++ [⟨0, 0, [], l.length⟩] ∧ scanA (l ++ 32 :: m) = .inr (vs ++ us.map (mvT (l.length + 1))) := by
  rw [scan_short (by omega)] at hl hm
  rw [scan_short (by simp; omega)]
  obtain ⟨vs, h1, h2⟩ := lexL_then 0 [] 0 0 l ts 32 m (by decide) hl
  rw [Nat.zero_add] at h1 h2
  refine ⟨vs, h1, ?_⟩
  have e1 : lexL 0 [] l.length l.length (32 :: m) = lexL 0 [] (0 + (l.length + 1)) (0 + (l.length + 1)) m := by
    rw [lexL_yes (k := 0) (by decide)]
    rw [Nat.zero_add]
    exact lexL_blank _ _ _ _ _ _
  show lexL 0 [] 0 0 _ = _
  rw [h2, e1, lexL_mv]
  show preR vs (mvR _ (lexA m)) = _
  rw [hm]
  exact preR_inr _ _
end Go.Proofs.YtfpmaeflmboalaaGreatDoor
namespace Go.Proofs.YtfpmaeflmboalaaGreatDoor
set_option linter.unusedVariables false

theorem tok_places (k : Nat) (t : List UInt8) (a p : Nat) (l : List UInt8) (ts : List Tk) (h : lexL k t a p l = .inr ts) (ha : a ≤ p) : ∀ x, x ∈ ts → x.a ≤ p + l.length := by
  induction l generalizing k t a p ts with
  | nil =>
    intro x hx
    rcases shut_inr h with ⟨rfl, h1⟩ | ⟨hk, y, us, hp, h1, h2⟩
    · injection h1 with h1
      subst h1
      simp at hx
      subst hx
      exact Nat.le_refl _
    · injection h1 with h1
      subst h1 h2
      simp at hx
      rcases hx with rfl | rfl
      · have := (ptok_inr hp).1
        simp
        omega
      · exact Nat.le_refl _
  | cons c r ih =>
    have e1 : p + (c :: r).length = p + 1 + r.length := by simp; omega
    rw [e1]
    cases ht : tks k t c.toNat
    · rw [lexL_no ht] at h
      rcases shut_inr h with ⟨rfl, h1⟩ | ⟨hk, y, us, hp, h1, h2⟩
      · exact ih _ _ _ _ _ h1 (by omega)
      · subst h2
        intro x hx
        rcases List.mem_cons.1 hx with rfl | hx
        · have := (ptok_inr hp).1
          omega
        · exact ih _ _ _ _ _ h1 (by omega) x hx
    · rw [lexL_yes ht] at h
      exact ih _ _ _ _ _ h (by omega)
theorem tok_count (k : Nat) (t : List UInt8) (a p : Nat) (l : List UInt8) (ts : List Tk) (h : lexL k t a p l = .inr ts) : ts.length ≤ l.length + 2 ∧ 0 < ts.length ∧ (k = 0 → ts.length ≤ l.length + 1) := by
  induction l generalizing k t a p ts with
  | nil =>
    rcases shut_inr h with ⟨rfl, h1⟩ | ⟨hk, y, us, hp, h1, h2⟩
    · injection h1 with h1
      subst h1
      simp
    · injection h1 with h1
      subst h1 h2
      simp [hk]
  | cons c r ih =>
    simp only [List.length_cons]
    cases ht : tks k t c.toNat
    · rw [lexL_no ht] at h
      rcases shut_inr h with ⟨rfl, h1⟩ | ⟨hk, y, us, hp, h1, h2⟩
      · have := ih _ _ _ _ _ h1
        exact ⟨by omega, by omega, fun _ => by omega⟩
      · subst h2
        have := ih _ _ _ _ _ h1
        simp only [List.length_cons]
        exact ⟨by omega, by omega, fun h => absurd h hk⟩
    · rw [lexL_yes ht] at h
      have := ih _ _ _ _ _ h
      exact ⟨by omega, by omega, fun h => by have := this.2.2 h; omega⟩
theorem scan_ok {l : List UInt8} {ts : List Tk} (h : scanA l = .inr ts) : l.length ≤ 2000 ∧ lexA l = .inr ts ∧ ts.length ≤ 2001 ∧ ts.length ≤ l.length + 1 ∧ 0 < ts.length ∧ (∀ x, x ∈ ts → x.a ≤ l.length) := by
  unfold scanA at h
  split at h
  · cases h
  · have h1 := tok_count _ _ _ _ _ _ h
    have h2 := tok_places _ _ _ _ _ _ h (Nat.le_refl _)
    have h3 := h1.2.2 rfl
    exact ⟨by omega, h, by omega, h3, h1.2.1, fun x hx => by have := h2 x hx; omega⟩
theorem scan_err_pos {l : List UInt8} {e q : Nat} (h : scanA l = .inl (e, q)) : e ≠ 0 := by
  by_cases he : e = 113
  · omega
  · have := (scan_err h he).2.2.2
    omega
end Go.Proofs.YtfpmaeflmboalaaGreatDoor
