/- Two texts with a blank between; places moved on; single pieces. No program. -/
import Derived.Test.YtgebhhfliphpdaaDoorLexE
namespace Go.Proofs.YtgebhhfliphpdaaDoor
set_option linter.unusedVariables false

/-- Places by d more. -/
def mvT (d : Nat) (x : Tk) : Tk := ⟨x.k, x.n, x.t, x.a + d⟩
def mvR (d : Nat) : Res → Res
  | .inl (e, q) => .inl (e, q + d)
  | .inr ts => .inr (ts.map (mvT d))
theorem consR_mv (d : Nat) (x : Tk) (X : Res) : consR (mvT d x) (mvR d X) = mvR d (consR x X) := by
  cases X with
  | inl e => rfl
  | inr l => rfl
/-- A token's place is the piece's own. -/
theorem ptok_inr {k : Nat} {t : List UInt8} {a : Nat} {x : Tk} (h : ptok k t a = .inr x) : x.a = a ∧ ∀ a', ptok k t a' = .inr ⟨x.k, x.n, x.t, a'⟩ := by
  unfold ptok at h ⊢
  split at h
  · unfold wrdT at h ⊢
    split at h
    · rename_i h1
      injection h with h
      subst h
      exact ⟨rfl, fun a' => by rw [if_pos h1]⟩
    · rename_i h1
      split at h
      · rename_i h2
        injection h with h
        subst h
        exact ⟨rfl, fun a' => by rw [if_neg h1, if_pos h2]⟩
      · cases h
  · unfold numT at h ⊢
    cases ha : Lib.atoiAll t with
    | ok v =>
      rw [ha] at h
      simp only at h ⊢
      split at h
      · cases h
      · rename_i h1
        injection h with h
        subst h
        exact ⟨rfl, fun a' => by rw [if_neg h1]⟩
    | _ => rw [ha] at h; cases h
  · unfold sgnT at h ⊢
    split at h
    · cases h
    · rename_i h1
      injection h with h
      subst h
      exact ⟨rfl, fun a' => by rw [if_neg h1]⟩
  · cases h
theorem ptok_inl {k : Nat} {t : List UInt8} {a e : Nat} (h : ptok k t a = .inl e) (a' : Nat) : ptok k t a' = .inl e := by
  unfold ptok at h ⊢
  split at h
  · show wrdT t a' = _
    unfold wrdT at h ⊢
    split at h
    · cases h
    · rename_i h1
      rw [if_neg h1]
      split at h
      · cases h
      · rename_i h2
        rw [if_neg h2]
        exact h
  · show numT t a' = _
    unfold numT at h ⊢
    cases ha : Lib.atoiAll t with
    | ok v =>
      rw [ha] at h
      simp only at h ⊢
      split at h
      · rename_i h1
        rw [if_pos h1]
        exact h
      · cases h
    | _ => rw [ha] at h; exact h
  · show sgnT t a' = _
    unfold sgnT at h ⊢
    split at h
    · rename_i h1
      rw [if_pos h1]
      exact h
    · cases h
  · exact h
theorem shutP_mv (k : Nat) (t : List UInt8) (a d : Nat) (X : Res) : shutP k t (a + d) (mvR d X) = mvR d (shutP k t a X) := by
  unfold shutP
  by_cases hk : k = 0
  · rw [if_pos hk, if_pos hk]
  · rw [if_neg hk, if_neg hk]
    cases hp : ptok k t a with
    | inl e => rw [ptok_inl hp]; rfl
    | inr x =>
      obtain ⟨h1, h2⟩ := ptok_inr hp
      rw [h2 (a + d)]
      simp only
      rw [← consR_mv]
      congr 1
      unfold mvT
      rw [h1]
theorem lexL_mv (k : Nat) (t : List UInt8) (a p d : Nat) (l : List UInt8) : lexL k t (a + d) (p + d) l = mvR d (lexL k t a p l) := by
  induction l generalizing k t a p with
  | nil =>
    rw [lexL_nil, lexL_nil, ← shutP_mv]
    rfl
  | cons c r ih =>
    cases ht : tks k t c.toNat
    · rw [lexL_no ht, lexL_no ht, ← shutP_mv, ← ih]
      congr 2
      omega
    · rw [lexL_yes ht, lexL_yes ht, ← ih]
      congr 1
      omega
theorem tks_blank (k : Nat) (t : List UInt8) (c : Nat) (hb : blk c = true) (hk : k ≠ 0) : tks k t c = false := by
  have hc : c = 32 ∨ c = 9 ∨ c = 10 ∨ c = 13 := by simpa [blk, or_assoc] using hb
  unfold tks
  split
  · exact absurd rfl hk
  · rcases hc with rfl | rfl | rfl | rfl <;> rfl
  · rcases hc with rfl | rfl | rfl | rfl <;> rfl
  · rcases hc with rfl | rfl | rfl | rfl <;> rfl
  · rfl
/-- A text that is taken, and a blank behind it: what follows is read as it stands. -/
theorem lexL_then (k : Nat) (t : List UInt8) (a p : Nat) (l : List UInt8) (ts : List Tk) (c : UInt8) (m : List UInt8) (hb : blk c.toNat = true) (h : lexL k t a p l = .inr ts) :
    ∃ us, ts = us ++ [⟨0, 0, [], p + l.length⟩] ∧ lexL k t a p (l ++ c :: m) = preR us (lexL 0 [] (p + l.length) (p + l.length) (c :: m)) := by
  induction l generalizing k t a p ts with
  | nil =>
    rcases shut_inr h with ⟨rfl, h1⟩ | ⟨hk, x, us, hp, h1, h2⟩
    · injection h1 with h1
      exact ⟨[], h1.symm, lexL_blank _ _ _ _ _ _⟩
    · injection h1 with h1
      subst h1
      refine ⟨[x], h2, ?_⟩
      simp only [List.nil_append, List.length_nil, Nat.add_zero]
      rw [lexL_shut (tks_blank k t _ hb hk)]
      unfold shutP
      rw [if_neg hk, hp]
      rfl
  | cons d r ih =>
    have e1 : p + (d :: r).length = p + 1 + r.length := by simp; omega
    rw [e1]
    cases ht : tks k t d.toNat
    · rw [lexL_no ht] at h
      rw [List.cons_append, lexL_no ht]
      rcases shut_inr h with ⟨rfl, h1⟩ | ⟨hk, x, us, hp, h1, h2⟩
      · obtain ⟨vs, h3, h4⟩ := ih _ _ _ _ _ h1
        refine ⟨vs, h3, ?_⟩
        rw [h4]
        rfl
      · obtain ⟨vs, h3, h4⟩ := ih _ _ _ _ _ h1
        refine ⟨x :: vs, by rw [h2, h3]; rfl, ?_⟩
        rw [h4]
        unfold shutP
        rw [if_neg hk, hp]
        rfl
    · rw [lexL_yes ht] at h
      rw [List.cons_append, lexL_yes ht]
      exact ih _ _ _ _ _ h
/-- Two texts with a blank between. -/
theorem scan_joins {l m : List UInt8} {ts us : List Tk} (hl : scanA l = .inr ts) (hm : scanA m = .inr us) (h : l.length + m.length < 2000) :
    ∃ vs, ts = vs ++ [⟨0, 0, [], l.length⟩] ∧ scanA (l ++ 32 :: m) = .inr (vs ++ us.map (mvT (l.length + 1))) := by
  rw [scan_short (by omega)] at hl hm
  rw [scan_short (by simp; omega)]
  obtain ⟨vs, h1, h2⟩ := lexL_then 0 [] 0 0 l ts 32 m (by decide) hl
  rw [Nat.zero_add] at h1 h2
  refine ⟨vs, h1, ?_⟩
  have e1 : lexL 0 [] l.length l.length (32 :: m) = lexL 0 [] (0 + (l.length + 1)) (0 + (l.length + 1)) m := by
    rw [lexL_yes (k := 0) (by decide)]
    rw [Nat.zero_add]
    exact lexL_blank _ _ _ _ _ _
  show lexL 0 [] 0 0 _ = _
  rw [h2, e1, lexL_mv]
  show preR vs (mvR _ (lexA m)) = _
  rw [hm]
  exact preR_inr _ _
end Go.Proofs.YtgebhhfliphpdaaDoor
