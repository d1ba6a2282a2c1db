/- Tokens of a text: kind and text fit together. No program. -/
import Derived.Test.YtafnlhnenmpfoaaDoorRdqR
namespace Go.Proofs.YtafnlhnenmpfoaaDoor
open Go.ChangeShapes Go.WideShapes Go.ChangeAt Go.RowKit
set_option linter.unusedVariables false
set_option linter.unusedSimpArgs false

theorem part_row {n row o q : Nat} (hr : row = 1 ∨ row = 2 ∨ row = 4 ∨ row = 5 ∨ row = 6) : partF (n + 1) row o q = fun ts => (partF n (row + 1) o q ts).bind fun l t => chainL (partF n) n row o q l t := by
  funext ts
  rcases hr with rfl | rfl | rfl | rfl | rfl <;> rfl
theorem rec_all : ∀ n, n ≤ 1000000 → RecQ (partF n) ∧ AtmQ (partF n)
  | 0, _ => ⟨fun w rb all row o q st TI h1 h7 h hn => by
      match st, h, hn with
      | .inl (er, a), h, hn => exact row_bad _ h
      | .inr ts, h, hn => exact absurd rfl (hn ts rfl), fun w rb all o q x r TI h hn => absurd rfl (hn _ rfl)⟩
  | n + 1, hm => by
    obtain ⟨R, RA⟩ := rec_all n (by omega)
    refine ⟨fun w rb all row o q st TI h1 h7 h hn => ?_, fun w rb all o q x r TI h hn => ?_⟩
    · match st, h, hn with
      | .inl (er, a), h, hn => exact row_bad _ h
      | .inr [], h, hn => exact absurd rfl (h.nn [] rfl)
      | .inr (x :: r), h, hn =>
        by_cases h3 : row = 3
        · subst h3
          exact row_3 R TI h hn
        · by_cases h7' : row = 7
          · subst h7'
            exact row_7 R RA TI h hn
          · have hr : row = 1 ∨ row = 2 ∨ row = 4 ∨ row = 5 ∨ row = 6 := by omega
            rw [part_row hr] at hn ⊢
            exact row_c R hr TI h hn
    · exact atom_q R (set_q R (by omega)) TI h hn
end Go.Proofs.YtafnlhnenmpfoaaDoor
namespace Go.Proofs.YtafnlhnenmpfoaaDoor
set_option linter.unusedVariables false

/-- A query in parentheses. -/
def parR (rec : Rdr) (o q : Nat) (ts : List Tk) : Rs Ex := (enterT [40] o ts).bind fun _ t1 => (rec 1 (o + 1) q t1).bind fun e t2 => (passT [41] t2).bind fun _ t4 => .ok e t4
theorem par_args (rec : Rdr) (o q : Nat) (ts : List Tk) : ((argsR rec 1 o q ts).bind fun ks t1 => .ok ks.head t1) = parR rec o q ts := by
  unfold argsR parR
  cases enterT [40] o ts using Rs.on with
  | out => rfl
  | bad e a => rfl
  | ok a t1 =>
    show (((rec 1 (o + 1) q t1).bind fun e t2 => (argsL rec 0 (o + 1) q (one e) t2).bind fun ks t3 => (passT [41] t3).bind fun _ t4 => .ok ks t4).bind fun ks t1 => .ok ks.head t1) = (rec 1 (o + 1) q t1).bind fun e t2 => (passT [41] t2).bind fun _ t4 => .ok e t4
    cases rec 1 (o + 1) q t1 using Rs.on with
    | out => rfl
    | bad e a => rfl
    | ok e t2 =>
      show (((passT [41] t2).bind fun _ t4 => Rs.ok (one e) t4).bind fun ks t1 => .ok ks.head t1) = (passT [41] t2).bind fun _ t4 => .ok e t4
      cases passT [41] t2 using Rs.on with
      | out => rfl
      | bad e a => rfl
      | ok a t4 => rfl
section
variable {g d : Nat} {v v' : List Tk} {rec : Rdr}
end
end Go.Proofs.YtafnlhnenmpfoaaDoor
namespace Go.Proofs.YtafnlhnenmpfoaaDoor
set_option linter.unusedVariables false

/-- The one has no strength, or both are the same. -/
def Und {α : Type} (R R' : Rs α) : Prop := R = .out ∨ R' = R
theorem Und.refl {α : Type} (R : Rs α) : Und R R := .inr rfl
theorem Und.out {α : Type} (R' : Rs α) : Und .out R' := .inl rfl
theorem Und.bind {α β : Type} {R R' : Rs α} {f f' : α → List Tk → Rs β} (h : Und R R') (hf : ∀ x t, Und (f x t) (f' x t)) : Und (R.bind f) (R'.bind f') := by
  rcases h with rfl | rfl
  · exact .inl rfl
  · cases R' using Rs.on with
    | out => exact .inl rfl
    | bad e a => exact .inr rfl
    | ok x t => exact hf x t
section
variable {rec rec' : Rdr}
end
end Go.Proofs.YtafnlhnenmpfoaaDoor
namespace Go.Proofs.YtafnlhnenmpfoaaDoor
set_option linter.unusedVariables false

/-- A text that is taken, and a byte behind it with which no piece goes on: what follows is read as it stands. -/
theorem lexL_thenG (k : Nat) (t : List UInt8) (a p : Nat) (l : List UInt8) (ts : List Tk) (c : UInt8) (m : List UInt8) (hb : ∀ k t, k ≠ 0 → tks k t c.toNat = false) (h : lexL k t a p l = .inr ts) :
    ∃ us, ts = us ++ [⟨0, 0, [], p + l.length⟩] ∧ lexL k t a p (l ++ c :: m) = preR us (lexL 0 [] (p + l.length) (p + l.length) (c :: m)) := by
  induction l generalizing k t a p ts with
  | nil =>
    rcases shut_inr h with ⟨rfl, h1⟩ | ⟨hk, x, us, hp, h1, h2⟩
    · injection h1 with h1
      exact ⟨[], h1.symm, lexL_blank _ _ _ _ _ _⟩
    · injection h1 with h1
      subst h1
      refine ⟨[x], h2, ?_⟩
      simp only [List.nil_append, List.length_nil, Nat.add_zero]
      rw [lexL_shut (hb k t hk)]
      unfold shutP
      rw [if_neg hk, hp]
      rfl
  | cons d r ih =>
    have e1 : p + (d :: r).length = p + 1 + r.length := by simp; omega
    rw [e1]
    cases ht : tks k t d.toNat
    · rw [lexL_no ht] at h
      rw [List.cons_append, lexL_no ht]
      rcases shut_inr h with ⟨rfl, h1⟩ | ⟨hk, x, us, hp, h1, h2⟩
      · obtain ⟨vs, h3, h4⟩ := ih _ _ _ _ _ h1
        refine ⟨vs, h3, ?_⟩
        rw [h4]
        rfl
      · obtain ⟨vs, h3, h4⟩ := ih _ _ _ _ _ h1
        refine ⟨x :: vs, by rw [h2, h3]; rfl, ?_⟩
        rw [h4]
        unfold shutP
        rw [if_neg hk, hp]
        rfl
    · rw [lexL_yes ht] at h
      rw [List.cons_append, lexL_yes ht]
      exact ih _ _ _ _ _ h
theorem par_tks (c : UInt8) (hc : c = 40 ∨ c = 41) (k : Nat) (t : List UInt8) (hk : k ≠ 0) : tks k t c.toNat = false := by
  unfold tks
  split
  · exact absurd rfl hk
  · rcases hc with rfl | rfl <;> rfl
  · rcases hc with rfl | rfl <;> rfl
  · rcases hc with rfl | rfl <;> rfl
  · rfl
theorem ptok_kind {k : Nat} {t : List UInt8} {a : Nat} {x : Tk} (h : ptok k t a = .inr x) : x.k ≠ 0 := by
  unfold ptok at h
  split at h
  · unfold wrdT at h
    repeat' split at h
    all_goals first | (injection h with h; subst h; simp) | cases h
  · unfold numT at h
    repeat' split at h
    all_goals first | (injection h with h; subst h; simp) | cases h
  · unfold sgnT at h
    split at h
    all_goals first | (injection h with h; subst h; simp) | cases h
  · cases h
/-- The end is the last token alone. -/
theorem lex_last (k : Nat) (t : List UInt8) (a p : Nat) (l : List UInt8) (us : List Tk) (e : Tk) (h : lexL k t a p l = .inr (us ++ [e])) : ∀ x, x ∈ us → x.k ≠ 0 := by
  induction l generalizing k t a p us with
  | nil =>
    unfold lexL at h
    rcases shut_inr h with ⟨_, h2⟩ | ⟨_, x, vs, hp, h2, h3⟩
    · unfold endR at h2
      injection h2 with h2
      have : us = [] := by
        have := congrArg List.length h2
        simp at this
        exact this
      subst this
      intro x hx
      cases hx
    · unfold endR at h2
      injection h2 with h2
      subst h2
      have : us = [x] := by
        have h4 : us ++ [e] = [x] ++ [⟨0, 0, [], p⟩] := h3
        exact List.append_inj_left' h4 rfl
      subst this
      intro y hy
      simp at hy
      rw [hy]
      exact ptok_kind hp
  | cons c r ih =>
    unfold lexL at h
    split at h
    · exact ih _ _ _ _ _ h
    · rcases shut_inr h with ⟨_, h2⟩ | ⟨_, x, vs, hp, h2, h3⟩
      · exact ih _ _ _ _ _ h2
      · cases us with
        | nil => intro y hy; cases hy
        | cons z us =>
          rw [List.cons_append] at h3
          injection h3 with h4 h5
          subst h4 h5
          intro y hy
          rcases List.mem_cons.1 hy with rfl | hy
          · exact ptok_kind hp
          · exact ih _ _ _ _ _ h2 y hy
/-- What a text that is read tells of its reader. -/
theorem parse_text {s : List UInt8} {x : Ex} {t : List Tk} (h : parseA s = .ok x t) : ∃ us E, s.length ≤ 2000 ∧ lexA s = .inr (us ++ [E]) ∧ E = ⟨0, 0, [], s.length⟩ ∧ us.length ≤ s.length ∧ (∀ y, y ∈ us → y.k ≠ 0) ∧ partF 30000 1 0 0 (us ++ [E]) = .ok x [E] := by
  unfold parseA at h
  cases hs : scanA s with
  | inl z => obtain ⟨e, p⟩ := z; rw [hs] at h; cases h
  | inr ts =>
    rw [hs] at h
    have h : readF 30000 ts = .ok x t := h
    have hk := scan_ok hs
    obtain ⟨us, h1, _⟩ := lexL_thenG 0 [] 0 0 s ts 41 [] (par_tks 41 (.inr rfl)) hk.2.1
    rw [Nat.zero_add] at h1
    subst h1
    have hl := lex_last _ _ _ _ _ _ _ hk.2.1
    refine ⟨us, _, hk.1, hk.2.1, rfl, by have := hk.2.2.2.1; simp at this; exact this, hl, ?_⟩
    unfold readF at h
    cases hp : partF 30000 1 0 0 (us ++ [⟨0, 0, [], s.length⟩]) using Rs.on with
    | out => rw [hp] at h; cases h
    | bad e a => rw [hp] at h; cases h
    | ok y t0 =>
      rw [hp] at h
      have hsf := lq_part 30000 1 0 0 _ _ (List.suffix_refl _) y t0 hp
      cases t0 with
      | nil => cases h
      | cons z r =>
        simp only [Rs.bind] at h
        by_cases hz : z.k = 0
        · rw [if_pos hz] at h
          obtain ⟨h1, h2⟩ := Rs.ok_inj h
          subst h1
          obtain ⟨pre, hpre⟩ := hsf
          cases r with
          | nil =>
            have h3 : pre ++ [z] = us ++ [⟨0, 0, [], s.length⟩] := hpre
            have h4 := List.append_inj_right' h3 rfl
            rw [h4]
          | cons z2 r =>
            exfalso
            have h5 : z ∈ us := by
              have h6 : pre ++ z :: (z2 :: r) = us ++ [⟨0, 0, [], s.length⟩] := hpre
              have h7 : (pre ++ z :: (z2 :: r)).dropLast = us := by rw [h6]; simp
              rw [← h7]
              have : pre ++ z :: (z2 :: r) = (pre ++ [z]) ++ (z2 :: r) := by simp
              rw [this, List.dropLast_append_cons]
              simp
            exact hl z h5 hz
        · rw [if_neg hz] at h
          cases h
end Go.Proofs.YtafnlhnenmpfoaaDoor
namespace Go.Proofs.YtafnlhnenmpfoaaDoor
set_option linter.unusedVariables false

/-- A token as a text gives it. -/
def TokW (x : Tk) : Prop := (x.k = 0 ∧ x.t = []) ∨ (x.k = 1 ∧ x.t = []) ∨ (x.k = 2 ∧ nameB x.t = true) ∨ (x.k = 3 ∧ wordB x.t = true) ∨ (x.k = 4 ∧ x.t ≠ [])
theorem ptok_w {k : Nat} {t : List UInt8} {a : Nat} {x : Tk} (h : ptok k t a = .inr x) (ht : t ≠ []) : TokW x := by
  unfold ptok at h
  split at h
  · unfold wrdT at h
    split at h
    · rename_i hw
      injection h with h
      subst h
      exact .inr (.inr (.inr (.inl ⟨rfl, hw⟩)))
    · split at h
      · rename_i hn
        injection h with h
        subst h
        exact .inr (.inr (.inl ⟨rfl, hn⟩))
      · cases h
  · unfold numT at h
    split at h
    · split at h
      · cases h
      · injection h with h
        subst h
        exact .inr (.inl ⟨rfl, rfl⟩)
    · cases h
  · unfold sgnT at h
    split at h
    · cases h
    · injection h with h
      subst h
      exact .inr (.inr (.inr (.inr ⟨rfl, ht⟩)))
  · cases h
theorem lex_w (k : Nat) (t : List UInt8) (a p : Nat) (l : List UInt8) (ts : List Tk) (h : lexL k t a p l = .inr ts) (ht : k = 0 ∨ t ≠ []) : ∀ x, x ∈ ts → TokW x := by
  induction l generalizing k t a p ts with
  | nil =>
    intro x hx
    unfold lexL at h
    rcases shut_inr h with ⟨_, h2⟩ | ⟨hk, y, us, hp, h2, rfl⟩
    · unfold endR at h2
      injection h2 with h2
      subst h2
      simp at hx
      subst hx
      exact .inl ⟨rfl, rfl⟩
    · unfold endR at h2
      injection h2 with h2
      subst h2
      simp at hx
      rcases hx with rfl | rfl
      · exact ptok_w hp (by rcases ht with h | h; exact absurd h hk; exact h)
      · exact .inl ⟨rfl, rfl⟩
  | cons c r ih =>
    unfold lexL at h
    split at h
    · exact ih _ _ _ _ _ h (by rcases ht with h | h; exact .inl h; exact .inr (by simp))
    · rcases shut_inr h with ⟨_, h2⟩ | ⟨hk, y, us, hp, h2, rfl⟩
      · exact ih _ _ _ _ _ h2 (.inr (by simp))
      · intro x hx
        rcases List.mem_cons.1 hx with rfl | hx
        · exact ptok_w hp (by rcases ht with h | h; exact absurd h hk; exact h)
        · exact ih _ _ _ _ _ h2 (.inr (by simp)) x hx
theorem scan_w {l : List UInt8} {ts : List Tk} (h : scanA l = .inr ts) : ∀ x, x ∈ ts → TokW x := lex_w _ _ _ _ _ _ (scan_ok h).2.1 (.inl rfl)
/-- A word or a sign is told by its text alone. -/
theorem TokW.is {x : Tk} (h : TokW x) {s : List UInt8} (hs : s ≠ []) (hn : nameB s = false) : ((x.k == 3 || x.k == 4) && x.t == s) = (x.t == s) := by
  by_cases e : x.t = s
  · have h2 : x.k = 3 ∨ x.k = 4 := by
      rcases h with ⟨_, h⟩ | ⟨_, h⟩ | ⟨_, h⟩ | ⟨h, _⟩ | ⟨h, _⟩
      · rw [h] at e; exact absurd e.symm hs
      · rw [h] at e; exact absurd e.symm hs
      · rw [e, hn] at h; cases h
      · exact .inl h
      · exact .inr h
    rcases h2 with h2 | h2 <;> simp [h2, e]
  · simp [e]
end Go.Proofs.YtafnlhnenmpfoaaDoor
