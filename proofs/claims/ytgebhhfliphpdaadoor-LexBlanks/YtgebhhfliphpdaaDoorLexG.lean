/- Pieces with blanks between them are read as the same tokens, at their new places. No program. -/
import Derived.Test.YtgebhhfliphpdaaDoorLexB
namespace Go.Proofs.YtgebhhfliphpdaaDoor
set_option linter.unusedVariables false

theorem skip_blanks (b l : List UInt8) (p : Nat) (hb : ∀ c, c ∈ b → blk c.toNat = true) : lexL 0 [] p p (b ++ l) = lexL 0 [] (p + b.length) (p + b.length) l := by
  induction b generalizing p with
  | nil => rfl
  | cons c r ih =>
    have hc : blk c.toNat = true := hb c (by simp)
    rw [List.cons_append, lexL_yes (k := 0) (by exact hc), lexL_blank _ [] _ (p + 1), ih (p + 1) (fun d hd => hb d (by simp [hd]))]
    have e : p + 1 + r.length = p + (c :: r).length := by simp; omega
    rw [e]
/-- What was laid so far: the text tx is read as xs, whatever blanks stand behind it. -/
def Laid (tx : List UInt8) (xs : List Tk) : Prop :=
  (tx = [] ∧ xs = []) ∨ ∀ m, (∀ c r, m = c :: r → blk c.toNat = true) → lexA (tx ++ m) = preR xs (lexL 0 [] tx.length tx.length m)
theorem Laid.nil : Laid [] [] := .inl ⟨rfl, rfl⟩
theorem Laid.more {tx : List UInt8} {xs : List Tk} (h : Laid tx xs) {k : Nat} {u b : List UInt8} {a : Nat} {x : Tk} (hP : Pce k u) (hx : ptok k u a = .inr x) (hb : ∀ c, c ∈ b → blk c.toNat = true) (h0 : b ≠ [] ∨ xs = [] ∧ tx = []) :
    Laid (tx ++ b ++ u) (xs ++ [⟨x.k, x.n, x.t, (tx ++ b).length⟩]) := by
  right
  intro m hm
  have hread : ∀ q, lexL 0 [] q q (u ++ m) = consR ⟨x.k, x.n, x.t, q⟩ (lexL 0 [] (q + u.length) (q + u.length) m) := fun q => by
    rw [hP.read q m hm]
    unfold shutP
    rw [if_neg hP.1, (ptok_inr hx).2 q]
  have key : lexA (tx ++ (b ++ (u ++ m))) = preR xs (lexL 0 [] tx.length tx.length (b ++ (u ++ m))) := by
    rcases h with ⟨rfl, rfl⟩ | h
    · rfl
    · rcases h0 with h0 | ⟨h0, h1⟩
      · refine h _ (fun c r e => ?_)
        cases b with
        | nil => exact absurd rfl h0
        | cons d b' =>
          injection e with e1 e2
          subst e1
          exact hb d (by simp)
      · subst h0 h1
        rfl
  rw [List.append_assoc, List.append_assoc, List.append_assoc, key, skip_blanks b _ _ hb, hread, preR_more]
  have e1 : (tx ++ b).length = tx.length + b.length := List.length_append
  have e2 : (tx ++ (b ++ u)).length = tx.length + b.length + u.length := by simp; omega
  rw [e1, e2]
theorem Laid.whole {tx : List UInt8} {xs : List Tk} (h : Laid tx xs) : lexA tx = .inr (xs ++ [⟨0, 0, [], tx.length⟩]) := by
  rcases h with ⟨rfl, rfl⟩ | h
  · rfl
  · have h1 := h [] (fun c r e => by cases e)
    rw [List.append_nil] at h1
    rw [h1, lexL_nil]
    exact preR_inr _ _
/-- The blanks that the law lays. -/
def bks (k : Nat) : List UInt8 :=
  match k with
  | 0 => [32]
  | 1 => [9]
  | 2 => [10]
  | 3 => [13]
  | 4 => [32, 32]
  | _ => [32, 10]
theorem bks_ok (k : Nat) : (∀ c, c ∈ bks k → blk c.toNat = true) ∧ bks k ≠ [] ∧ (bks k).length ≤ 2 := by
  unfold bks
  split <;> refine ⟨?_, by simp, by simp⟩ <;> intro c hc <;> simp at hc
  all_goals first | (subst hc; rfl) | (rcases hc with rfl | rfl <;> rfl)
/-- Tokens that are alike but for their places. -/
def Alike (ts xs : List Tk) : Prop := ∀ j (h : j < xs.length), ∃ h' : j < ts.length, (xs[j]).k = (ts[j]).k ∧ (xs[j]).n = (ts[j]).n ∧ (xs[j]).t = (ts[j]).t
theorem Alike.nil (ts : List Tk) : Alike ts [] := fun j h => by simp at h
theorem Alike.more {ts xs : List Tk} (h : Alike ts xs) (hi : xs.length < ts.length) (a : Nat) : Alike ts (xs ++ [⟨(ts[xs.length]).k, (ts[xs.length]).n, (ts[xs.length]).t, a⟩]) := by
  intro j hj
  by_cases e : j < xs.length
  · obtain ⟨h1, h2⟩ := h j e
    refine ⟨h1, ?_⟩
    rw [List.getElem_append_left e]
    exact h2
  · have e2 : j = xs.length := by simp at hj; omega
    subst e2
    refine ⟨hi, ?_⟩
    rw [List.getElem_append_right (by omega)]
    simp
end Go.Proofs.YtgebhhfliphpdaaDoor
