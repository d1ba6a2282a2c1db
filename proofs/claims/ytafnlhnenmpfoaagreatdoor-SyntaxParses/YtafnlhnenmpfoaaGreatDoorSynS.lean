/- Parse. -/
import Derived.Test.YtafnlhnenmpfoaaGreatDoorSynQ
namespace Go.Proofs.YtafnlhnenmpfoaaGreatDoor
set_option linter.unusedVariables false

theorem consR_inl {x : Tk} {X : Res} {e : Nat × Nat} (h : consR x X = .inl e) : X = .inl e := by
  cases X with
  | inl e' => exact h
  | inr l => cases h
theorem consR_inr {x : Tk} {X : Res} {ts : List Tk} (h : consR x X = .inr ts) : ∃ us, X = .inr us ∧ ts = x :: us := by
  cases X with
  | inl e => cases h
  | inr l =>
    refine ⟨l, rfl, ?_⟩
    injection h with h
    exact h.symm
/-- How a shut piece ends in an error. -/
theorem shut_inl {k : Nat} {t : List UInt8} {a e q : Nat} {X : Res} (h : shutP k t a X = .inl (e, q)) : (k ≠ 0 ∧ ptok k t a = .inl e ∧ q = a) ∨ (X = .inl (e, q) ∧ (k = 0 ∨ ∃ x, ptok k t a = .inr x)) := by
  unfold shutP at h
  by_cases hk : k = 0
  · rw [if_pos hk] at h
    exact .inr ⟨h, .inl hk⟩
  · rw [if_neg hk] at h
    cases hp : ptok k t a with
    | inl e' =>
      rw [hp] at h
      simp only at h
      injection h with h
      injection h with h1 h2
      exact .inl ⟨hk, by rw [h1], h2.symm⟩
    | inr x =>
      rw [hp] at h
      exact .inr ⟨consR_inl h, .inr ⟨x, rfl⟩⟩
theorem shut_inr {k : Nat} {t : List UInt8} {a : Nat} {X : Res} {ts : List Tk} (h : shutP k t a X = .inr ts) : (k = 0 ∧ X = .inr ts) ∨ (k ≠ 0 ∧ ∃ x us, ptok k t a = .inr x ∧ X = .inr us ∧ ts = x :: us) := by
  unfold shutP at h
  by_cases hk : k = 0
  · rw [if_pos hk] at h
    exact .inl ⟨hk, h⟩
  · rw [if_neg hk] at h
    cases hp : ptok k t a with
    | inl e' => rw [hp] at h; cases h
    | inr x =>
      rw [hp] at h
      obtain ⟨us, h1, h2⟩ := consR_inr h
      exact .inr ⟨hk, x, us, rfl, h1, h2⟩
theorem err_place (k : Nat) (t : List UInt8) (a p : Nat) (l : List UInt8) (e q : Nat) (h : lexL k t a p l = .inl (e, q)) : (k ≠ 0 ∧ q = a) ∨ (p ≤ q ∧ q < p + l.length) := by
  induction l generalizing k t a p with
  | nil =>
    rcases shut_inl h with ⟨h1, _, h2⟩ | ⟨h1, _⟩
    · exact .inl ⟨h1, h2⟩
    · cases h1
  | cons c r ih =>
    simp only [List.length_cons]
    cases ht : tks k t c.toNat
    · rw [lexL_no ht] at h
      rcases shut_inl h with ⟨h1, _, h2⟩ | ⟨h1, _⟩
      · exact .inl ⟨h1, h2⟩
      · rcases ih _ _ _ _ h1 with ⟨_, h2⟩ | ⟨h2, h3⟩
        · exact .inr ⟨by omega, by omega⟩
        · exact .inr ⟨by omega, by omega⟩
    · rw [lexL_yes ht] at h
      rcases ih _ _ _ _ h with h2 | ⟨h2, h3⟩
      · exact .inl h2
      · exact .inr ⟨by omega, by omega⟩
theorem err_kind (k : Nat) (t : List UInt8) (a p : Nat) (l : List UInt8) (e q : Nat) (h : lexL k t a p l = .inl (e, q)) : e = 110 ∨ e = 111 ∨ e = 112 := by
  induction l generalizing k t a p with
  | nil =>
    rcases shut_inl h with ⟨h1, h2, _⟩ | ⟨h1, _⟩
    · exact ptok_err h2
    · cases h1
  | cons c r ih =>
    cases ht : tks k t c.toNat
    · rw [lexL_no ht] at h
      rcases shut_inl h with ⟨h1, h2, _⟩ | ⟨h1, _⟩
      · exact ptok_err h2
      · exact ih _ _ _ _ h1
    · rw [lexL_yes ht] at h
      exact ih _ _ _ _ h
/-- Scan's own. -/
theorem scan_short {l : List UInt8} (h : l.length ≤ 2000) : scanA l = lexA l := by
  unfold scanA
  rw [if_neg (by omega)]
theorem scan_err {l : List UInt8} {e q : Nat} (h : scanA l = .inl (e, q)) (he : e ≠ 113) : l.length ≤ 2000 ∧ lexA l = .inl (e, q) ∧ q < l.length ∧ (e = 110 ∨ e = 111 ∨ e = 112) := by
  unfold scanA at h
  split at h
  · injection h with h
    injection h with h1 h2
    omega
  · refine ⟨by omega, h, ?_, err_kind _ _ _ _ _ _ _ h⟩
    rcases err_place _ _ _ _ _ _ _ h with ⟨h1, _⟩ | ⟨_, h1⟩
    · exact absurd rfl h1
    · omega
end Go.Proofs.YtafnlhnenmpfoaaGreatDoor
namespace Go.Proofs.YtafnlhnenmpfoaaGreatDoor
set_option linter.unusedVariables false

/-- Places by d more. -/
def mvT (d : Nat) (x : Tk) : Tk := ⟨x.k, x.n, x.t, x.a + d⟩
/-- A token's place is the piece's own. -/
theorem ptok_inr {k : Nat} {t : List UInt8} {a : Nat} {x : Tk} (h : ptok k t a = .inr x) : x.a = a ∧ ∀ a', ptok k t a' = .inr ⟨x.k, x.n, x.t, a'⟩ := by
  unfold ptok at h ⊢
  split at h
  · unfold wrdT at h ⊢
    split at h
    · rename_i h1
      injection h with h
      subst h
      exact ⟨rfl, fun a' => by rw [if_pos h1]⟩
    · rename_i h1
      split at h
      · rename_i h2
        injection h with h
        subst h
        exact ⟨rfl, fun a' => by rw [if_neg h1, if_pos h2]⟩
      · cases h
  · unfold numT at h ⊢
    cases ha : Lib.atoiAll t with
    | ok v =>
      rw [ha] at h
      simp only at h ⊢
      split at h
      · cases h
      · rename_i h1
        injection h with h
        subst h
        exact ⟨rfl, fun a' => by rw [if_neg h1]⟩
    | _ => rw [ha] at h; cases h
  · unfold sgnT at h ⊢
    split at h
    · cases h
    · rename_i h1
      injection h with h
      subst h
      exact ⟨rfl, fun a' => by rw [if_neg h1]⟩
  · cases h
end Go.Proofs.YtafnlhnenmpfoaaGreatDoor
namespace Go.Proofs.YtafnlhnenmpfoaaGreatDoor
set_option linter.unusedVariables false

theorem tok_places (k : Nat) (t : List UInt8) (a p : Nat) (l : List UInt8) (ts : List Tk) (h : lexL k t a p l = .inr ts) (ha : a ≤ p) : ∀ x, x ∈ ts → x.a ≤ p + l.length := by
  induction l generalizing k t a p ts with
  | nil =>
    intro x hx
    rcases shut_inr h with ⟨rfl, h1⟩ | ⟨hk, y, us, hp, h1, h2⟩
    · injection h1 with h1
      subst h1
      simp at hx
      subst hx
      exact Nat.le_refl _
    · injection h1 with h1
      subst h1 h2
      simp at hx
      rcases hx with rfl | rfl
      · have := (ptok_inr hp).1
        simp
        omega
      · exact Nat.le_refl _
  | cons c r ih =>
    have e1 : p + (c :: r).length = p + 1 + r.length := by simp; omega
    rw [e1]
    cases ht : tks k t c.toNat
    · rw [lexL_no ht] at h
      rcases shut_inr h with ⟨rfl, h1⟩ | ⟨hk, y, us, hp, h1, h2⟩
      · exact ih _ _ _ _ _ h1 (by omega)
      · subst h2
        intro x hx
        rcases List.mem_cons.1 hx with rfl | hx
        · have := (ptok_inr hp).1
          omega
        · exact ih _ _ _ _ _ h1 (by omega) x hx
    · rw [lexL_yes ht] at h
      exact ih _ _ _ _ _ h (by omega)
theorem tok_count (k : Nat) (t : List UInt8) (a p : Nat) (l : List UInt8) (ts : List Tk) (h : lexL k t a p l = .inr ts) : ts.length ≤ l.length + 2 ∧ 0 < ts.length ∧ (k = 0 → ts.length ≤ l.length + 1) := by
  induction l generalizing k t a p ts with
  | nil =>
    rcases shut_inr h with ⟨rfl, h1⟩ | ⟨hk, y, us, hp, h1, h2⟩
    · injection h1 with h1
      subst h1
      simp
    · injection h1 with h1
      subst h1 h2
      simp [hk]
  | cons c r ih =>
    simp only [List.length_cons]
    cases ht : tks k t c.toNat
    · rw [lexL_no ht] at h
      rcases shut_inr h with ⟨rfl, h1⟩ | ⟨hk, y, us, hp, h1, h2⟩
      · have := ih _ _ _ _ _ h1
        exact ⟨by omega, by omega, fun _ => by omega⟩
      · subst h2
        have := ih _ _ _ _ _ h1
        simp only [List.length_cons]
        exact ⟨by omega, by omega, fun h => absurd h hk⟩
    · rw [lexL_yes ht] at h
      have := ih _ _ _ _ _ h
      exact ⟨by omega, by omega, fun h => by have := this.2.2 h; omega⟩
theorem scan_ok {l : List UInt8} {ts : List Tk} (h : scanA l = .inr ts) : l.length ≤ 2000 ∧ lexA l = .inr ts ∧ ts.length ≤ 2001 ∧ ts.length ≤ l.length + 1 ∧ 0 < ts.length ∧ (∀ x, x ∈ ts → x.a ≤ l.length) := by
  unfold scanA at h
  split at h
  · cases h
  · have h1 := tok_count _ _ _ _ _ _ h
    have h2 := tok_places _ _ _ _ _ _ h (Nat.le_refl _)
    have h3 := h1.2.2 rfl
    exact ⟨by omega, h, by omega, h3, h1.2.1, fun x hx => by have := h2 x hx; omega⟩
theorem scan_err_pos {l : List UInt8} {e q : Nat} (h : scanA l = .inl (e, q)) : e ≠ 0 := by
  by_cases he : e = 113
  · omega
  · have := (scan_err h he).2.2.2
    omega
end Go.Proofs.YtafnlhnenmpfoaaGreatDoor
namespace Go.Proofs.YtafnlhnenmpfoaaGreatDoor
set_option linter.unusedVariables false

/-- Tokens whose last one is the end. -/
def WFT (ts : List Tk) : Prop := ∃ e, ts.getLast? = some e ∧ e.k = 0 ∧ e.t = []
theorem WFT.tail {x : Tk} {r : List Tk} (h : WFT (x :: r)) (hx : x.t ≠ [] ∨ x.k ≠ 0) : WFT r := by
  obtain ⟨e, h1, h2, h3⟩ := h
  cases r with
  | nil =>
    simp at h1
    subst h1
    rcases hx with hx | hx
    · exact absurd h3 hx
    · exact absurd h2 hx
  | cons y l => exact ⟨e, by rw [List.getLast?_cons_cons] at h1; exact h1, h2, h3⟩
theorem WFT.ne {ts : List Tk} (h : WFT ts) : ts ≠ [] := by
  obtain ⟨e, h1, _⟩ := h
  intro e2
  subst e2
  cases h1
/-- An answer that has its strength, and fewer tokens behind it than b. -/
def Fine {α : Type} (b : Nat) (r : Rs α) : Prop :=
  match r with
  | ⟨none⟩ => False
  | ⟨some (.inl (_, _))⟩ => True
  | ⟨some (.inr (_, t))⟩ => WFT t ∧ t.length < b
theorem Fine.bind {α β : Type} {b c : Nat} {r : Rs α} {f : α → List Tk → Rs β} (h : Fine b r) (hf : ∀ x t, WFT t → t.length < b → Fine c (f x t)) : Fine c (r.bind f) := by
  cases r using Rs.on with
  | out => exact h.elim
  | bad e a => exact trivial
  | ok x t => exact hf x t h.1 h.2
theorem fine_pass {s : List UInt8} (hs : s ≠ []) {ts : List Tk} (h : WFT ts) : Fine ts.length (passT s ts) := by
  cases ts with
  | nil => exact absurd rfl h.ne
  | cons x r =>
    simp only [passT]
    by_cases hx : x.t = s
    · rw [if_pos hx]; exact ⟨h.tail (.inl (by rw [hx]; exact hs)), by simp⟩
    · rw [if_neg hx]; exact trivial
theorem fine_kind {k : Nat} (hk : k ≠ 0) {ts : List Tk} (h : WFT ts) : Fine ts.length (passK k ts) := by
  cases ts with
  | nil => exact absurd rfl h.ne
  | cons x r =>
    simp only [passK]
    by_cases hx : x.k = k
    · rw [if_pos hx]; exact ⟨h.tail (.inr (by rw [hx]; exact hk)), by simp⟩
    · rw [if_neg hx]; exact trivial
theorem fine_enter {s : List UInt8} (hs : s ≠ []) (o : Nat) {ts : List Tk} (h : WFT ts) : Fine ts.length (enterT s o ts) := by
  cases ts with
  | nil => exact absurd rfl h.ne
  | cons x r =>
    simp only [enterT]
    by_cases hx : x.t = s
    · rw [if_pos hx]
      by_cases ho : o = 64
      · rw [if_pos ho]; exact trivial
      · rw [if_neg ho]; exact ⟨h.tail (.inl (by rw [hx]; exact hs)), by simp⟩
    · rw [if_neg hx]; exact trivial
section
variable {rec : Rdr} {n : Nat}
theorem fine_rec1 (H : ∀ row o q ts, row ≤ 8 → WFT ts → 10 * ts.length + (9 - row) ≤ n → Fine ts.length (rec row o q ts)) {o q : Nat} {ts : List Tk} (h : WFT ts) (hn : 10 * ts.length + 8 ≤ n) : Fine ts.length (rec 1 o q ts) := H 1 o q ts (by omega) h (by omega)
theorem fine_argsL (H : ∀ row o q ts, row ≤ 8 → WFT ts → 10 * ts.length + (9 - row) ≤ n → Fine ts.length (rec row o q ts)) : ∀ (j : Nat) (o q : Nat) (acc : Fs) (ts : List Tk) (b : Nat), WFT ts → 10 * ts.length + 8 ≤ n → ts.length < b → Fine b (argsL rec j o q acc ts)
  | 0, o, q, acc, ts, b, h, hn, hb => ⟨h, hb⟩
  | j + 1, o, q, acc, ts, b, h, hn, hb => by
    unfold argsL
    refine (fine_pass (by simp) h).bind fun _ t1 h1 l1 => ?_
    refine (fine_rec1 H h1 (by omega)).bind fun e t2 h2 l2 => ?_
    exact fine_argsL H j o q _ t2 b h2 (by omega) (by omega)
theorem fine_args (H : ∀ row o q ts, row ≤ 8 → WFT ts → 10 * ts.length + (9 - row) ≤ n → Fine ts.length (rec row o q ts)) (many o q : Nat) {ts : List Tk} (h : WFT ts) (hn : 10 * ts.length ≤ n) : Fine ts.length (argsR rec many o q ts) := by
  unfold argsR
  refine (fine_enter (by simp) o h).bind fun _ t1 h1 l1 => ?_
  refine (fine_rec1 H h1 (by omega)).bind fun e t2 h2 l2 => ?_
  refine (fine_argsL H (many - 1) (o + 1) q _ t2 (t2.length + 1) h2 (by omega) (by omega)).bind fun ks t3 h3 l3 => ?_
  refine (fine_pass (by simp) h3).bind fun _ t4 h4 l4 => ?_
  exact ⟨h4, by omega⟩
theorem fine_choice (H : ∀ row o q ts, row ≤ 8 → WFT ts → 10 * ts.length + (9 - row) ≤ n → Fine ts.length (rec row o q ts)) (o q : Nat) {ts : List Tk} (h : WFT ts) (hn : 10 * ts.length ≤ n) : Fine ts.length (choiceR rec o q ts) := by
  unfold choiceR
  refine (fine_enter (by simp) o h).bind fun _ t1 h1 l1 => ?_
  refine (fine_rec1 H h1 (by omega)).bind fun e t2 h2 l2 => ?_
  refine (fine_pass (by simp) h2).bind fun _ t3 h3 l3 => ?_
  refine (fine_rec1 H h3 (by omega)).bind fun e t4 h4 l4 => ?_
  refine (fine_pass (by simp) h4).bind fun _ t5 h5 l5 => ?_
  refine (fine_rec1 H h5 (by omega)).bind fun e t6 h6 l6 => ?_
  exact ⟨h6, by omega⟩
theorem fine_memL (H : ∀ row o q ts, row ≤ 8 → WFT ts → 10 * ts.length + (9 - row) ≤ n → Fine ts.length (rec row o q ts)) : ∀ (m : Nat) (o q : Nat) (acc : Fs) (ts : List Tk) (b : Nat), WFT ts → 10 * ts.length + 8 ≤ n → ts.length < m → ts.length < b → Fine b (memL rec m o q acc ts)
  | 0, o, q, acc, ts, b, h, hn, hm, hb => by omega
  | m + 1, o, q, acc, ts, b, h, hn, hm, hb => by
    cases ts with
    | nil => exact absurd rfl h.ne
    | cons x r =>
      unfold memL
      simp only [List.length_cons] at hn hm hb
      by_cases hx : x.t = [44]
      · simp only [hx, if_true]
        have hr := h.tail (.inl (by rw [hx]; simp))
        refine (fine_rec1 H hr (by omega)).bind fun e t2 h2 l2 => ?_
        exact fine_memL H m o q _ t2 b h2 (by omega) (by omega) (by omega)
      · simp only [hx, if_false]
        exact ⟨h, by simpa using hb⟩
theorem fine_mem (H : ∀ row o q ts, row ≤ 8 → WFT ts → 10 * ts.length + (9 - row) ≤ n → Fine ts.length (rec row o q ts)) (m o q : Nat) {ts : List Tk} (h : WFT ts) (hn : 10 * ts.length + 8 ≤ n) (hm : ts.length < m) : Fine (ts.length + 1) (memR rec m o q ts) := by
  cases ts with
  | nil => exact absurd rfl h.ne
  | cons x r =>
    unfold memR
    by_cases hx : x.t = [125]
    · simp only [hx, if_true]
      exact ⟨h, by omega⟩
    · simp only [hx, if_false]
      refine (fine_rec1 H h hn).bind fun e t1 h1 l1 => ?_
      exact fine_memL H m o q _ t1 _ h1 (by omega) (by omega) (by omega)
theorem fine_set (H : ∀ row o q ts, row ≤ 8 → WFT ts → 10 * ts.length + (9 - row) ≤ n → Fine ts.length (rec row o q ts)) (m o q : Nat) {ts : List Tk} (h : WFT ts) (hn : 10 * ts.length ≤ n) (hm : ts.length < m) : Fine ts.length (setR rec m o q ts) := by
  cases ts with
  | nil => exact absurd rfl h.ne
  | cons x r =>
    unfold setR
    simp only [List.length_cons] at hn hm
    by_cases hk : x.k = 2
    · simp only [hk, if_true]
      exact ⟨h.tail (.inr (by rw [hk]; decide)), by simp⟩
    simp only [hk, if_false]
    by_cases hv : x.t = [118, 101, 114, 116, 105, 99, 101, 115]
    · simp only [hv, if_true]
      exact ⟨h.tail (.inl (by rw [hv]; simp)), by simp⟩
    simp only [hv, if_false]
    by_cases ha : x.t = [97, 114, 111, 117, 110, 100]
    · simp only [ha, if_true]
      have hr := h.tail (.inl (by rw [ha]; simp))
      refine (fine_args H 1 o q hr (by omega)).bind fun ks t h1 l1 => ?_
      exact ⟨h1, by simp; omega⟩
    simp only [ha, if_false]
    refine (fine_enter (by simp) o h).bind fun a t1 h1 l1 => ?_
    simp only [List.length_cons] at l1
    refine (fine_mem H m (o + 1) q h1 (by omega) (by omega)).bind fun ks t2 h2 l2 => ?_
    refine (fine_pass (by simp) h2).bind fun _ t3 h3 l3 => ?_
    exact ⟨h3, by simp; omega⟩
theorem fine_quant (H : ∀ row o q ts, row ≤ 8 → WFT ts → 10 * ts.length + (9 - row) ≤ n → Fine ts.length (rec row o q ts)) (m : Nat) {s : List UInt8} (hs : s ≠ []) (k o q : Nat) {ts : List Tk} (h : WFT ts) (hn : 10 * ts.length ≤ n) (hm : ts.length < m) : Fine ts.length (quantR rec m s k o q ts) := by
  cases ts with
  | nil => exact absurd rfl h.ne
  | cons x r =>
    unfold quantR
    by_cases h4 : q = 4
    · simp only [h4, if_true]; exact trivial
    simp only [h4, if_false]
    refine (fine_enter hs o h).bind fun _ t1 h1 l1 => ?_
    refine (fine_kind (by decide) h1).bind fun _ t2 h2 l2 => ?_
    refine (fine_pass (by simp) h2).bind fun _ t3 h3 l3 => ?_
    refine (fine_set H m (o + 1) (q + 1) h3 (by omega) (by omega)).bind fun e t4 h4 l4 => ?_
    refine (fine_pass (by simp) h4).bind fun _ t5 h5 l5 => ?_
    refine (fine_rec1 H h5 (by omega)).bind fun e t6 h6 l6 => ?_
    exact ⟨h6, by omega⟩
theorem fine_atom (H : ∀ row o q ts, row ≤ 8 → WFT ts → 10 * ts.length + (9 - row) ≤ n → Fine ts.length (rec row o q ts)) (m o q : Nat) {ts : List Tk} (h : WFT ts) (hn : 10 * ts.length ≤ n) (hm : ts.length < m) : Fine ts.length (atomR rec m o q ts) := by
  cases ts with
  | nil => exact absurd rfl h.ne
  | cons x r =>
    unfold atomR
    have hl : r.length < (x :: r).length := by simp
    simp only
    by_cases h1 : x.k = 1
    · simp only [h1, if_true]; exact ⟨h.tail (.inr (by rw [h1]; decide)), hl⟩
    simp only [h1, if_false]
    by_cases h2 : x.k = 2
    · simp only [h2, if_true]; exact ⟨h.tail (.inr (by rw [h2]; decide)), hl⟩
    simp only [h2, if_false]
    by_cases h3 : x.t = [102, 97, 108, 115, 101]
    · simp only [h3, if_true]; exact ⟨h.tail (.inl (by rw [h3]; simp)), hl⟩
    simp only [h3, if_false]
    by_cases h4 : x.t = [116, 114, 117, 101]
    · simp only [h4, if_true]; exact ⟨h.tail (.inl (by rw [h4]; simp)), hl⟩
    simp only [h4, if_false]
    by_cases h5 : x.t = [64]
    · simp only [h5, if_true]
      have hr := h.tail (.inl (by rw [h5]; simp))
      refine (fine_kind (by decide) hr).bind fun _ t2 k2 l2 => ?_
      exact ⟨k2, by omega⟩
    simp only [h5, if_false]
    by_cases h6 : x.t = [40]
    · simp only [h6, if_true]
      refine (fine_args H 1 o q h hn).bind fun ks t1 k1 l1 => ?_
      exact ⟨k1, l1⟩
    simp only [h6, if_false]
    by_cases h7 : x.t = [105, 102]
    · simp only [h7, if_true]; exact fine_choice H o q h hn
    simp only [h7, if_false]
    cases hc : callAt x.t with
    | some z =>
      obtain ⟨a, k, many⟩ := z
      have hx : x.t ≠ [] := fun e => by rw [e] at hc; cases hc
      have hr := h.tail (.inl hx)
      simp only [List.length_cons] at hn
      refine (fine_args H many o q hr (by omega)).bind fun ks t1 k1 l1 => ?_
      exact ⟨k1, by omega⟩
    | none =>
      cases hq : quantAt x.t with
      | some z =>
        obtain ⟨a, k⟩ := z
        have hx : x.t ≠ [] := fun e => by rw [e] at hq; cases hq
        exact fine_quant H m hx k o q h hn hm
      | none => exact trivial
theorem fine_pref (H : ∀ row o q ts, row ≤ 8 → WFT ts → 10 * ts.length + (9 - row) ≤ n → Fine ts.length (rec row o q ts)) {s : List UInt8} (hs : s ≠ []) (k : Int) (row o q : Nat) (hrow : row ≤ 7) {ts : List Tk} (h : WFT ts) (hn : 10 * ts.length + (8 - row) ≤ n) : Fine ts.length (prefR rec s k row o q ts) := by
  cases ts with
  | nil => exact absurd rfl h.ne
  | cons x r =>
    unfold prefR
    by_cases hx : x.t = s
    · simp only [hx, if_true]
      by_cases ho : o = 64
      · simp only [ho, if_true]; exact trivial
      · simp only [ho, if_false]
        have hr := h.tail (.inl (by rw [hx]; exact hs))
        simp only [List.length_cons] at hn
        refine (H row (o + 1) q r (by omega) hr (by omega)).bind fun e t2 h2 l2 => ?_
        exact ⟨h2, by simp; omega⟩
    · simp only [hx, if_false]
      exact H (row + 1) o q _ (by omega) h (by omega)
theorem fine_chainL (H : ∀ row o q ts, row ≤ 8 → WFT ts → 10 * ts.length + (9 - row) ≤ n → Fine ts.length (rec row o q ts)) : ∀ (m row o q : Nat) (left : Ex) (ts : List Tk) (b : Nat), WFT ts → 10 * ts.length + 8 ≤ n → ts.length < m → ts.length < b → Fine b (chainL rec m row o q left ts)
  | 0, row, o, q, left, ts, b, h, hn, hm, hb => by omega
  | m + 1, row, o, q, left, ts, b, h, hn, hm, hb => by
    cases ts with
    | nil => exact absurd rfl h.ne
    | cons x r =>
      unfold chainL
      simp only
      cases hz : opAt x.t row with
      | none => exact ⟨h, hb⟩
      | some z =>
        obtain ⟨zt, zk, zr, zl, zz⟩ := z
        have hx : x.t ≠ [] := fun e => by
          have h1 := List.mem_of_find?_eq_some hz
          have h2 := List.find?_some hz
          simp at h2
          have h3 := h2.1
          rw [e] at h3
          simp only [opsL, List.mem_cons, List.not_mem_nil, or_false, Prod.mk.injEq] at h1
          rcases h1 with ⟨h, _⟩ | ⟨h, _⟩ | ⟨h, _⟩ | ⟨h, _⟩ | ⟨h, _⟩ | ⟨h, _⟩ | ⟨h, _⟩ | ⟨h, _⟩ | ⟨h, _⟩ | ⟨h, _⟩ | ⟨h, _⟩ <;> (rw [h3] at h; cases h)
        have hz8 : zz ≤ 8 := by
          have h1 := List.mem_of_find?_eq_some hz
          simp only [opsL, List.mem_cons, List.not_mem_nil, or_false, Prod.mk.injEq] at h1
          rcases h1 with h | h | h | h | h | h | h | h | h | h | h <;> (have := h.2.2.2.2; omega)
        have hr := h.tail (.inl hx)
        simp only [List.length_cons] at hn hm hb
        refine (H zz o q r hz8 hr (by omega)).bind fun e t2 h2 l2 => ?_
        by_cases hlt : row < zl
        · simp only [hlt, if_true]; exact ⟨h2, by omega⟩
        · simp only [hlt, if_false]
          exact fine_chainL H m row o q _ t2 b h2 (by omega) (by omega) (by omega)
end
theorem fine_part : ∀ (n row o q : Nat) (ts : List Tk), row ≤ 8 → WFT ts → 10 * ts.length + (9 - row) ≤ n → Fine ts.length (partF n row o q ts)
  | 0, row, o, q, ts, hr, h, hn => by
    have := List.length_pos_iff.2 h.ne
    omega
  | n + 1, row, o, q, ts, hr, h, hn => by
    have H := fine_part n
    have hp := List.length_pos_iff.2 h.ne
    unfold partF
    by_cases h3 : row = 3
    · simp only [h3, if_true]; exact fine_pref H (by simp) 7 3 o q (by omega) h (by omega)
    simp only [h3, if_false]
    by_cases h7 : row = 7
    · simp only [h7, if_true]; exact fine_pref H (by simp) 6 7 o q (by omega) h (by omega)
    simp only [h7, if_false]
    by_cases h8 : row = 8
    · simp only [h8, if_true]; exact fine_atom H n o q h (by omega) (by omega)
    simp only [h8, if_false]
    refine (H (row + 1) o q ts (by omega) h (by omega)).bind fun l t h1 l1 => ?_
    exact fine_chainL H n row o q l t _ h1 (by omega) (by omega) l1
theorem read_fine {n : Nat} {ts : List Tk} (h : WFT ts) (hn : 10 * ts.length + 8 ≤ n) : readF n ts ≠ .out := by
  intro e
  have F : Fine ts.length (readF n ts) ∨ readF n ts ≠ .out := by
    refine .inr ?_
    have := fine_part n 1 0 0 ts (by omega) h (by omega)
    unfold readF
    cases hr : partF n 1 0 0 ts using Rs.on with
    | out => rw [hr] at this; exact this.elim
    | bad e a => intro h; cases h
    | ok x t =>
      rw [hr] at this
      cases t with
      | nil => exact absurd rfl this.1.ne
      | cons y l =>
        simp only [Rs.bind]
        by_cases hy : y.k = 0
        · simp [hy]
        · simp [hy]
  rcases F with F | F
  · rw [e] at F; exact F
  · exact F e
theorem lex_wft (k : Nat) (t : List UInt8) (a p : Nat) (l : List UInt8) (ts : List Tk) (h : lexL k t a p l = .inr ts) : WFT ts := by
  induction l generalizing k t a p ts with
  | nil =>
    unfold lexL at h
    rcases shut_inr h with ⟨_, h2⟩ | ⟨_, x, us, _, h2, rfl⟩
    · unfold endR at h2; injection h2 with h2; subst h2; exact ⟨_, rfl, rfl, rfl⟩
    · unfold endR at h2; injection h2 with h2; subst h2; exact ⟨_, rfl, rfl, rfl⟩
  | cons c r ih =>
    unfold lexL at h
    split at h
    · exact ih _ _ _ _ _ h
    · rcases shut_inr h with ⟨_, h2⟩ | ⟨_, x, us, _, h2, rfl⟩
      · exact ih _ _ _ _ _ h2
      · have := ih _ _ _ _ _ h2
        obtain ⟨e, h1, h3⟩ := this
        cases us with
        | nil => cases h1
        | cons y l => exact ⟨e, by rw [List.getLast?_cons_cons]; exact h1, h3⟩
/-- What Parse answers. -/
def parseA (l : List UInt8) : Rs Ex :=
  match scanA l with
  | .inl (e, p) => .bad e p
  | .inr ts => readF 30000 ts
theorem parse_fine (l : List UInt8) : parseA l ≠ .out := by
  unfold parseA
  cases h : scanA l with
  | inl x => obtain ⟨e, p⟩ := x; intro h; cases h
  | inr ts =>
    have hs := scan_ok h
    exact read_fine (lex_wft _ _ _ _ _ _ hs.2.1) (by omega)
end Go.Proofs.YtafnlhnenmpfoaaGreatDoor
namespace Go.Proofs.YtafnlhnenmpfoaaGreatDoor
open Go.ChangeShapes Go.WideShapes Go.ChangeAt Go.RowKit
set_option linter.unusedVariables false
set_option linter.unusedSimpArgs false

set_option maxRecDepth 100000 in
set_option maxHeartbeats 1000000 in
theorem parse_r (s : ByteArray) (w : World) (hW : Wd w) (hE : Ers w) (hB : Tb3 w) (hs : s.size ≤ maxLen) :
    Calls Tryz.prog 9 #[.string s] w (PostR w (parseA s.data.toList)) := by
  obtain ⟨W, hPW⟩ : ∃ W, W = parseA s.data.toList := ⟨_, rfl⟩
  rw [← hPW]
  have HW : Hid (W = parseA s.data.toList) := hPW
  have hn : W ≠ .out := by rw [hPW]; exact parse_fine _
  have B0 : Below w.heap.size w (w.alloc exZ) := (Below.refl _ w).alloc (Nat.le_refl _) _
  have Z0 : (w.alloc exZ).heap[w.heap.size]? = some exZ := heap_alloc_new w _
  have hs0 : w.heap.size < (w.alloc exZ).heap.size := by simp
  have c1 := scan_c s (w.alloc exZ) (hW.below B0) (hE.below B0) hs
  have hB0 := hB.below B0
  clear hPW
  go_enter Tryz.func9, Tryz.ntmps9
  go_wp2_with fail
  refine c1.mono ?_
  rintro e w1 ⟨v, er, at0, rfl, hO, b1⟩
  have B1 : Below w.heap.size w w1 := B0.trans (b1.mono (by omega))
  have Z1 := (b1.block _ hs0).trans Z0
  have hB1 := hB0.below b1
  have hz1 : w.heap.size < w1.heap.size := lt_of_block Z1
  clear c1 b1 Z0 B0 hB0 hW hE hB
  rcases hO with ⟨e, p, hR, rfl, rfl, rfl⟩ | ⟨ts, hR, rfl, rfl, hown⟩
  · have he := scan_err_pos hR
    have heI : ((e : Int) == 0) = false := by rw [beq_eq_false_iff_ne]; omega
    have FIN : Hid (W = .bad e p) := by show W = _; rw [HW.out]; unfold parseA; rw [hR]
    have B2 := ((((B1.setCell (p := ⟨w.heap.size, 0, none⟩) (Nat.le_refl _) (.int .i64 0)).setCell (p := ⟨w.heap.size, 1, none⟩) (Nat.le_refl _) (.int .i64 0)).setCell (p := ⟨w.heap.size, 2, none⟩) (Nat.le_refl _) (.string ⟨#[]⟩)).setCell (p := ⟨w.heap.size, 3, none⟩) (Nat.le_refl _) (.slice none 0 0)).setCell (p := ⟨w.heap.size, 4, none⟩) (Nat.le_refl _) (.int .i64 0)
    have ZE := set5k (.int .i64 0) (.int .i64 0) (.string ⟨#[]⟩) (.slice none 0 0) (.int .i64 0) Z1
    have HU : Hid (∃ wz, wz = (World.setCell (World.setCell (World.setCell (World.setCell (World.setCell w1 ⟨w.heap.size, 0, none⟩ (.int .i64 0)) ⟨w.heap.size, 1, none⟩ (.int .i64 0)) ⟨w.heap.size, 2, none⟩ (.string ⟨#[]⟩)) ⟨w.heap.size, 3, none⟩ (.slice none 0 0)) ⟨w.heap.size, 4, none⟩ (.int .i64 0)) ∧ wz.cell? ⟨w.heap.size, 0, none⟩ = some (.int .i64 0) ∧ wz.cell? ⟨w.heap.size, 1, none⟩ = some (.int .i64 0) ∧ wz.cell? ⟨w.heap.size, 2, none⟩ = some (.string ⟨#[]⟩) ∧ wz.cell? ⟨w.heap.size, 3, none⟩ = some (.slice none 0 0) ∧ wz.cell? ⟨w.heap.size, 4, none⟩ = some (.int .i64 0) ∧ Below w.heap.size w wz) := by
      obtain ⟨u0, u1, u2, u3, u4, -⟩ := box5 ZE
      exact ⟨_, rfl, u0, u1, u2, u3, u4, B2⟩
    obtain ⟨z0, z1, z2, z3, z4, zf⟩ := box5 Z1
    clear HW hR B1 Z1 ZE hB1 he B2
    go_wp2
    obtain ⟨wz, hwz, u0, u1, u2, u3, u4, BZ⟩ := HU.out
    clear HU
    rw [← hwz]
    clear hwz
    exact bodyPost_ret (v := .tuple #[exV noEx none 0, .int .i64 (e : Nat), .int .i64 (p : Nat)]) (by simp [results, Tryz.results9, go_sem, u0, u1, u2, u3, u4, exV, noEx, Fs.len]) rfl (by rw [FIN.out]; exact ⟨rfl, BZ⟩)
  · have hso := scan_ok hR
    have hPW : W = readF 30000 ts := by rw [HW.out]; unfold parseA; rw [hR]
    have HW2 : Hid (W = readF 30000 ts) := hPW
    have c2 := read_r 30000 (by omega) v w1 _ hown (by omega) (by omega) hB1 (by rw [← hPW]; exact hn)
    rw [← hPW] at c2
    clear HW hR hso hown hB1 hPW
    go_wp2_with fail
    refine c2.mono ?_
    rintro e w2 hP
    clear c2
    cases W using Rs.on with
    | out => exact hP.elim
    | bad er a =>
      obtain ⟨rfl, b2⟩ := hP
      have B2' := B1.trans (b2.mono (by omega))
      have Z2 := (b2.block _ hz1).trans Z1
      have B2 := ((((B2'.setCell (p := ⟨w.heap.size, 0, none⟩) (Nat.le_refl _) (.int .i64 0)).setCell (p := ⟨w.heap.size, 1, none⟩) (Nat.le_refl _) (.int .i64 0)).setCell (p := ⟨w.heap.size, 2, none⟩) (Nat.le_refl _) (.string ⟨#[]⟩)).setCell (p := ⟨w.heap.size, 3, none⟩) (Nat.le_refl _) (.slice none 0 0)).setCell (p := ⟨w.heap.size, 4, none⟩) (Nat.le_refl _) (.int .i64 0)
      have ZE := set5k (.int .i64 0) (.int .i64 0) (.string ⟨#[]⟩) (.slice none 0 0) (.int .i64 0) Z2
      have HU : Hid (∃ wz, wz = (World.setCell (World.setCell (World.setCell (World.setCell (World.setCell w2 ⟨w.heap.size, 0, none⟩ (.int .i64 0)) ⟨w.heap.size, 1, none⟩ (.int .i64 0)) ⟨w.heap.size, 2, none⟩ (.string ⟨#[]⟩)) ⟨w.heap.size, 3, none⟩ (.slice none 0 0)) ⟨w.heap.size, 4, none⟩ (.int .i64 0)) ∧ wz.cell? ⟨w.heap.size, 0, none⟩ = some (.int .i64 0) ∧ wz.cell? ⟨w.heap.size, 1, none⟩ = some (.int .i64 0) ∧ wz.cell? ⟨w.heap.size, 2, none⟩ = some (.string ⟨#[]⟩) ∧ wz.cell? ⟨w.heap.size, 3, none⟩ = some (.slice none 0 0) ∧ wz.cell? ⟨w.heap.size, 4, none⟩ = some (.int .i64 0) ∧ Below w.heap.size w wz) := by
        obtain ⟨u0, u1, u2, u3, u4, -⟩ := box5 ZE
        exact ⟨_, rfl, u0, u1, u2, u3, u4, B2⟩
      obtain ⟨z0, z1, z2, z3, z4, zf⟩ := box5 Z2
      clear B1 Z1 ZE b2 B2' Z2 HW2 B2
      unfold exV noEx
      simp only [Fs.len]
      go_wp2
      obtain ⟨wz, hwz, u0, u1, u2, u3, u4, BZ⟩ := HU.out
      clear HU
      rw [← hwz]
      clear hwz
      exact bodyPost_ret (v := .tuple #[exV noEx none 0, .int .i64 (er : Nat), .int .i64 (a : Nat)]) (by simp [results, Tryz.results9, go_sem, u0, u1, u2, u3, u4, exV, noEx, Fs.len]) rfl ⟨rfl, BZ⟩
    | ok x t =>
      obtain ⟨ao, cap, rfl, S2, b2⟩ := hP
      have B2' := B1.trans (b2.mono (by omega))
      have Z2 := (b2.block _ hz1).trans Z1
      have B2 := ((((B2'.setCell (p := ⟨w.heap.size, 0, none⟩) (Nat.le_refl _) (.int .i64 x.k)).setCell (p := ⟨w.heap.size, 1, none⟩) (Nat.le_refl _) (.int .i64 x.n)).setCell (p := ⟨w.heap.size, 2, none⟩) (Nat.le_refl _) (stv x.nm)).setCell (p := ⟨w.heap.size, 3, none⟩) (Nat.le_refl _) (.slice ao x.kids.len cap)).setCell (p := ⟨w.heap.size, 4, none⟩) (Nat.le_refl _) (.int .i64 x.a)
      have ZE := set5k (.int .i64 x.k) (.int .i64 x.n) (stv x.nm) (.slice ao x.kids.len cap) (.int .i64 x.a) Z2
      have SE : Sl _ (Nw w.heap.size) _ _ := (S2.set5 (b := w.heap.size) hz1 (.int .i64 x.k) (.int .i64 x.n) (stv x.nm) (.slice ao x.kids.len cap) (.int .i64 x.a)).low (by omega)
      obtain ⟨z0, z1, z2, z3, z4, zf⟩ := box5 Z2
      obtain ⟨u0, u1, u2, u3, u4, -⟩ := box5 ZE
      clear B1 Z1 ZE b2 B2' Z2 HW2 S2
      rw [exV_out]
      go_wp2
      exact bodyPost_ret (v := .tuple #[exV x ao cap, .int .i64 0, .int .i64 0]) (by simp [results, Tryz.results9, go_sem, u0, u1, u2, u3, u4, exV]) rfl ⟨ao, cap, rfl, SE, B2⟩
end Go.Proofs.YtafnlhnenmpfoaaGreatDoor
