/- A text in parentheses: its tokens, and what it is read as. No program. -/
import Derived.Test.YtfpmaeflmboalaaGreatDoorSynR
namespace Go.Proofs.YtfpmaeflmboalaaGreatDoor
set_option linter.unusedVariables false

/-- The one has no strength, or both are the same. -/
def Und {α : Type} (R R' : Rs α) : Prop := R = .out ∨ R' = R
theorem Und.refl {α : Type} (R : Rs α) : Und R R := .inr rfl
theorem Und.out {α : Type} (R' : Rs α) : Und .out R' := .inl rfl
theorem Und.bind {α β : Type} {R R' : Rs α} {f f' : α → List Tk → Rs β} (h : Und R R') (hf : ∀ x t, Und (f x t) (f' x t)) : Und (R.bind f) (R'.bind f') := by
  rcases h with rfl | rfl
  · exact .inl rfl
  · cases R' using Rs.on with
    | out => exact .inl rfl
    | bad e a => exact .inr rfl
    | ok x t => exact hf x t
section
variable {rec rec' : Rdr}
theorem und_argsL (H : ∀ row o q ts, Und (rec row o q ts) (rec' row o q ts)) : ∀ (j o q : Nat) (acc : Fs) (ts : List Tk), Und (argsL rec j o q acc ts) (argsL rec' j o q acc ts)
  | 0, o, q, acc, ts => Und.refl _
  | j + 1, o, q, acc, ts => by
    unfold argsL
    exact (Und.refl _).bind fun _ t1 => (H _ _ _ _).bind fun e t2 => und_argsL H j o q _ t2
theorem und_args (H : ∀ row o q ts, Und (rec row o q ts) (rec' row o q ts)) (many o q : Nat) (ts : List Tk) : Und (argsR rec many o q ts) (argsR rec' many o q ts) := by
  unfold argsR
  exact (Und.refl _).bind fun _ t1 => (H _ _ _ _).bind fun e t2 => (und_argsL H _ _ _ _ t2).bind fun ks t3 => Und.refl _
theorem und_choice (H : ∀ row o q ts, Und (rec row o q ts) (rec' row o q ts)) (o q : Nat) (ts : List Tk) : Und (choiceR rec o q ts) (choiceR rec' o q ts) := by
  unfold choiceR
  exact (Und.refl _).bind fun _ t1 => (H _ _ _ _).bind fun e t2 => (Und.refl _).bind fun _ t3 => (H _ _ _ _).bind fun e t4 => (Und.refl _).bind fun _ t5 => (H _ _ _ _).bind fun e t6 => Und.refl _
theorem und_memL (H : ∀ row o q ts, Und (rec row o q ts) (rec' row o q ts)) : ∀ (m m' o q : Nat) (acc : Fs) (ts : List Tk), m ≤ m' → Und (memL rec m o q acc ts) (memL rec' m' o q acc ts)
  | 0, m', o, q, acc, ts, h => Und.out _
  | m + 1, 0, o, q, acc, ts, h => by omega
  | m + 1, m' + 1, o, q, acc, [], h => Und.out _
  | m + 1, m' + 1, o, q, acc, x :: r, h => by
    unfold memL
    simp only
    split
    · exact (H _ _ _ _).bind fun e t2 => und_memL H m m' o q _ t2 (by omega)
    · exact Und.refl _
theorem und_mem (H : ∀ row o q ts, Und (rec row o q ts) (rec' row o q ts)) (m m' o q : Nat) (ts : List Tk) (h : m ≤ m') : Und (memR rec m o q ts) (memR rec' m' o q ts) := by
  cases ts with
  | nil => exact Und.out _
  | cons x r =>
    unfold memR
    simp only
    split
    · exact Und.refl _
    · exact (H _ _ _ _).bind fun e t1 => und_memL H m m' o q _ t1 h
theorem und_set (H : ∀ row o q ts, Und (rec row o q ts) (rec' row o q ts)) (m m' o q : Nat) (ts : List Tk) (h : m ≤ m') : Und (setR rec m o q ts) (setR rec' m' o q ts) := by
  cases ts with
  | nil => exact Und.out _
  | cons x r =>
    unfold setR
    simp only
    split
    · exact Und.refl _
    · split
      · exact Und.refl _
      · split
        · exact (und_args H 1 o q r).bind fun ks t => Und.refl _
        · exact (Und.refl _).bind fun _ t1 => (und_mem H m m' _ q t1 h).bind fun ks t2 => Und.refl _
theorem und_quant (H : ∀ row o q ts, Und (rec row o q ts) (rec' row o q ts)) (m m' : Nat) (s : List UInt8) (k o q : Nat) (ts : List Tk) (h : m ≤ m') : Und (quantR rec m s k o q ts) (quantR rec' m' s k o q ts) := by
  cases ts with
  | nil => exact Und.out _
  | cons x r =>
    unfold quantR
    simp only
    split
    · exact Und.refl _
    · exact (Und.refl _).bind fun _ t1 => (Und.refl _).bind fun _ t2 => (Und.refl _).bind fun _ t3 => (und_set H m m' _ _ t3 h).bind fun _ t4 => (Und.refl _).bind fun _ t5 => (H _ _ _ _).bind fun e t6 => Und.refl _
theorem und_atom (H : ∀ row o q ts, Und (rec row o q ts) (rec' row o q ts)) (m m' o q : Nat) (ts : List Tk) (h : m ≤ m') : Und (atomR rec m o q ts) (atomR rec' m' o q ts) := by
  cases ts with
  | nil => exact Und.out _
  | cons x r =>
    unfold atomR
    simp only
    split
    · exact Und.refl _
    · split
      · exact Und.refl _
      · split
        · exact Und.refl _
        · split
          · exact Und.refl _
          · split
            · exact Und.refl _
            · split
              · exact (und_args H 1 o q _).bind fun ks t => Und.refl _
              · split
                · exact und_choice H o q _
                · split
                  · exact (und_args H _ o q r).bind fun ks t => Und.refl _
                  · split
                    · exact und_quant H m m' _ _ o q _ h
                    · exact Und.refl _
theorem und_pref (H : ∀ row o q ts, Und (rec row o q ts) (rec' row o q ts)) (s : List UInt8) (k : Int) (row o q : Nat) (ts : List Tk) : Und (prefR rec s k row o q ts) (prefR rec' s k row o q ts) := by
  cases ts with
  | nil => exact Und.out _
  | cons x r =>
    unfold prefR
    simp only
    split
    · split
      · exact Und.refl _
      · exact (H _ _ _ _).bind fun e t2 => Und.refl _
    · exact H _ _ _ _
theorem und_chainL (H : ∀ row o q ts, Und (rec row o q ts) (rec' row o q ts)) : ∀ (m m' row o q : Nat) (left : Ex) (ts : List Tk), m ≤ m' → Und (chainL rec m row o q left ts) (chainL rec' m' row o q left ts)
  | 0, m', row, o, q, left, ts, h => Und.out _
  | m + 1, 0, row, o, q, left, ts, h => by omega
  | m + 1, m' + 1, row, o, q, left, [], h => Und.out _
  | m + 1, m' + 1, row, o, q, left, x :: r, h => by
    unfold chainL
    simp only
    split
    · exact Und.refl _
    · refine (H _ _ _ _).bind fun e t2 => ?_
      split
      · exact Und.refl _
      · exact und_chainL H m m' row o q _ t2 (by omega)
end
theorem und_part : ∀ (n n' row o q : Nat) (ts : List Tk), n ≤ n' → Und (partF n row o q ts) (partF n' row o q ts)
  | 0, n', row, o, q, ts, h => Und.out _
  | n + 1, 0, row, o, q, ts, h => by omega
  | n + 1, n' + 1, row, o, q, ts, h => by
    have H : ∀ row o q ts, Und (partF n row o q ts) (partF n' row o q ts) := fun row o q ts => und_part n n' row o q ts (by omega)
    unfold partF
    split
    · exact und_pref H _ _ _ _ _ _
    · split
      · exact und_pref H _ _ _ _ _ _
      · split
        · exact und_atom H n n' o q _ (by omega)
        · exact (H _ _ _ _).bind fun l t => und_chainL H n n' row o q l t (by omega)
/-- With strength enough all are the same. -/
theorem part_same {n n' row o q : Nat} {ts : List Tk} (hr : row ≤ 8) (h : WFT ts) (hn : 10 * ts.length + (9 - row) ≤ n) (hn' : 10 * ts.length + (9 - row) ≤ n') : partF n row o q ts = partF n' row o q ts := by
  have f1 := fine_part n row o q ts hr h hn
  have f2 := fine_part n' row o q ts hr h hn'
  rcases Nat.le_total n n' with hh | hh
  · rcases und_part n n' row o q ts hh with e | e
    · rw [e] at f1; exact f1.elim
    · exact e.symm
  · rcases und_part n' n row o q ts hh with e | e
    · rw [e] at f2; exact f2.elim
    · exact e
end Go.Proofs.YtfpmaeflmboalaaGreatDoor
namespace Go.Proofs.YtfpmaeflmboalaaGreatDoor
set_option linter.unusedVariables false

/-- What is left are the last ones of b. -/
def Lq {α : Type} (b : List Tk) (r : Rs α) : Prop := ∀ x t, r = .ok x t → t <:+ b
theorem Lq.bind {α β : Type} {b : List Tk} {r : Rs α} {f : α → List Tk → Rs β} (h : Lq b r) (hf : ∀ x t, t <:+ b → Lq b (f x t)) : Lq b (r.bind f) := by
  cases r using Rs.on with
  | out => intro x t e; cases e
  | bad e a => intro x t e; cases e
  | ok x t => exact hf x t (h x t rfl)
theorem Lq.bad {α : Type} (b : List Tk) (e a : Nat) : Lq b (.bad e a : Rs α) := fun x t h => by cases h
theorem Lq.out {α : Type} (b : List Tk) : Lq b (.out : Rs α) := fun x t h => by cases h
theorem Lq.ok {α : Type} {b : List Tk} (x : α) {t : List Tk} (h : t <:+ b) : Lq b (.ok x t) := fun y u e => by
  obtain ⟨_, e⟩ := Rs.ok_inj e
  subst e
  exact h
theorem lq_pass (s : List UInt8) {b : List Tk} {ts : List Tk} (h : ts <:+ b) : Lq b (passT s ts) := by
  cases ts with
  | nil => exact Lq.out _
  | cons x r =>
    simp only [passT]
    split
    · exact Lq.ok _ ((List.suffix_cons x r).trans h)
    · exact Lq.bad _ _ _
theorem lq_kind (k : Nat) {b : List Tk} {ts : List Tk} (h : ts <:+ b) : Lq b (passK k ts) := by
  cases ts with
  | nil => exact Lq.out _
  | cons x r =>
    simp only [passK]
    split
    · exact Lq.ok _ ((List.suffix_cons x r).trans h)
    · exact Lq.bad _ _ _
theorem lq_enter (s : List UInt8) (o : Nat) {b : List Tk} {ts : List Tk} (h : ts <:+ b) : Lq b (enterT s o ts) := by
  cases ts with
  | nil => exact Lq.out _
  | cons x r =>
    simp only [enterT]
    split
    · split
      · exact Lq.bad _ _ _
      · exact Lq.ok _ ((List.suffix_cons x r).trans h)
    · exact Lq.bad _ _ _
section
variable {rec : Rdr}
theorem lq_argsL (H : ∀ row o q ts b, ts <:+ b → Lq b (rec row o q ts)) : ∀ (j : Nat) (o q : Nat) (acc : Fs) (ts : List Tk) (b : List Tk), ts <:+ b → Lq b (argsL rec j o q acc ts)
  | 0, o, q, acc, ts, b, h => Lq.ok _ h
  | j + 1, o, q, acc, ts, b, h => by
    unfold argsL
    exact (lq_pass _ h).bind fun _ t1 h1 => (H _ _ _ _ _ h1).bind fun e t2 h2 => lq_argsL H j o q _ t2 b h2
theorem lq_args (H : ∀ row o q ts b, ts <:+ b → Lq b (rec row o q ts)) (many o q : Nat) {b : List Tk} {ts : List Tk} (h : ts <:+ b) : Lq b (argsR rec many o q ts) := by
  unfold argsR
  exact (lq_enter _ _ h).bind fun _ t1 h1 => (H _ _ _ _ _ h1).bind fun e t2 h2 => (lq_argsL H _ _ _ _ t2 b h2).bind fun ks t3 h3 => (lq_pass _ h3).bind fun _ t4 h4 => Lq.ok _ h4
theorem lq_choice (H : ∀ row o q ts b, ts <:+ b → Lq b (rec row o q ts)) (o q : Nat) {b : List Tk} {ts : List Tk} (h : ts <:+ b) : Lq b (choiceR rec o q ts) := by
  unfold choiceR
  exact (lq_enter _ _ h).bind fun _ t1 h1 => (H _ _ _ _ _ h1).bind fun e t2 h2 => (lq_pass _ h2).bind fun _ t3 h3 => (H _ _ _ _ _ h3).bind fun e t4 h4 => (lq_pass _ h4).bind fun _ t5 h5 => (H _ _ _ _ _ h5).bind fun e t6 h6 => Lq.ok _ h6
theorem lq_memL (H : ∀ row o q ts b, ts <:+ b → Lq b (rec row o q ts)) : ∀ (m : Nat) (o q : Nat) (acc : Fs) (ts : List Tk) (b : List Tk), ts <:+ b → Lq b (memL rec m o q acc ts)
  | 0, o, q, acc, ts, b, h => Lq.out _
  | m + 1, o, q, acc, [], b, h => Lq.out _
  | m + 1, o, q, acc, x :: r, b, h => by
    unfold memL
    simp only
    split
    · exact (H _ _ _ _ _ ((List.suffix_cons x r).trans h)).bind fun e t2 h2 => lq_memL H m o q _ t2 b h2
    · exact Lq.ok _ h
theorem lq_mem (H : ∀ row o q ts b, ts <:+ b → Lq b (rec row o q ts)) (m o q : Nat) {b : List Tk} {ts : List Tk} (h : ts <:+ b) : Lq b (memR rec m o q ts) := by
  cases ts with
  | nil => exact Lq.out _
  | cons x r =>
    unfold memR
    simp only
    split
    · exact Lq.ok _ h
    · exact (H _ _ _ _ _ h).bind fun e t1 h1 => lq_memL H m o q _ t1 b h1
theorem lq_set (H : ∀ row o q ts b, ts <:+ b → Lq b (rec row o q ts)) (m o q : Nat) {b : List Tk} {ts : List Tk} (h : ts <:+ b) : Lq b (setR rec m o q ts) := by
  cases ts with
  | nil => exact Lq.out _
  | cons x r =>
    have hr : r <:+ b := (List.suffix_cons x r).trans h
    unfold setR
    simp only
    split
    · exact Lq.ok _ hr
    · split
      · exact Lq.ok _ hr
      · split
        · exact (lq_args H 1 o q hr).bind fun ks t h1 => Lq.ok _ h1
        · exact (lq_enter _ _ h).bind fun _ t1 h1 => (lq_mem H m _ q h1).bind fun ks t2 h2 => (lq_pass _ h2).bind fun _ t3 h3 => Lq.ok _ h3
theorem lq_quant (H : ∀ row o q ts b, ts <:+ b → Lq b (rec row o q ts)) (m : Nat) (s : List UInt8) (k o q : Nat) {b : List Tk} {ts : List Tk} (h : ts <:+ b) : Lq b (quantR rec m s k o q ts) := by
  cases ts with
  | nil => exact Lq.out _
  | cons x r =>
    unfold quantR
    simp only
    split
    · exact Lq.bad _ _ _
    · exact (lq_enter _ _ h).bind fun _ t1 h1 => (lq_kind _ h1).bind fun _ t2 h2 => (lq_pass _ h2).bind fun _ t3 h3 => (lq_set H m _ _ h3).bind fun _ t4 h4 => (lq_pass _ h4).bind fun _ t5 h5 => (H _ _ _ _ _ h5).bind fun e t6 h6 => Lq.ok _ h6
theorem lq_atom (H : ∀ row o q ts b, ts <:+ b → Lq b (rec row o q ts)) (m o q : Nat) {b : List Tk} {ts : List Tk} (h : ts <:+ b) : Lq b (atomR rec m o q ts) := by
  cases ts with
  | nil => exact Lq.out _
  | cons x r =>
    have hr : r <:+ b := (List.suffix_cons x r).trans h
    unfold atomR
    simp only
    split
    · exact Lq.ok _ hr
    · split
      · exact Lq.ok _ hr
      · split
        · exact Lq.ok _ hr
        · split
          · exact Lq.ok _ hr
          · split
            · exact (lq_kind _ hr).bind fun _ t h1 => Lq.ok _ h1
            · split
              · exact (lq_args H 1 o q h).bind fun ks t h1 => Lq.ok _ h1
              · split
                · exact lq_choice H o q h
                · split
                  · exact (lq_args H _ o q hr).bind fun ks t h1 => Lq.ok _ h1
                  · split
                    · exact lq_quant H m _ _ o q h
                    · exact Lq.bad _ _ _
theorem lq_pref (H : ∀ row o q ts b, ts <:+ b → Lq b (rec row o q ts)) (s : List UInt8) (k : Int) (row o q : Nat) {b : List Tk} {ts : List Tk} (h : ts <:+ b) : Lq b (prefR rec s k row o q ts) := by
  cases ts with
  | nil => exact Lq.out _
  | cons x r =>
    have hr : r <:+ b := (List.suffix_cons x r).trans h
    unfold prefR
    simp only
    split
    · split
      · exact Lq.bad _ _ _
      · exact (H _ _ _ _ _ hr).bind fun e t2 h2 => Lq.ok _ h2
    · exact H _ _ _ _ _ h
theorem lq_chainL (H : ∀ row o q ts b, ts <:+ b → Lq b (rec row o q ts)) : ∀ (m row o q : Nat) (left : Ex) (ts : List Tk) (b : List Tk), ts <:+ b → Lq b (chainL rec m row o q left ts)
  | 0, row, o, q, left, ts, b, h => Lq.out _
  | m + 1, row, o, q, left, [], b, h => Lq.out _
  | m + 1, row, o, q, left, x :: r, b, h => by
    have hr : r <:+ b := (List.suffix_cons x r).trans h
    unfold chainL
    simp only
    split
    · exact Lq.ok _ h
    · refine (H _ _ _ _ _ hr).bind fun e t2 h2 => ?_
      split
      · exact Lq.ok _ h2
      · exact lq_chainL H m row o q _ t2 b h2
end
theorem lq_part : ∀ (n row o q : Nat) (ts : List Tk) (b : List Tk), ts <:+ b → Lq b (partF n row o q ts)
  | 0, row, o, q, ts, b, h => Lq.out _
  | n + 1, row, o, q, ts, b, h => by
    have H := lq_part n
    unfold partF
    split
    · exact lq_pref H _ _ _ _ _ h
    · split
      · exact lq_pref H _ _ _ _ _ h
      · split
        · exact lq_atom H n o q h
        · exact (H _ _ _ _ _ h).bind fun l t h1 => lq_chainL H n row o q l t b h1

/-- Trees whose places are by d more. -/
def Fs.mv (d : Nat) : Fs → Fs
  | ⟨none⟩ => .nil
  | ⟨some ⟨k, n, nm, a, ks, r⟩⟩ => .cons k n nm (a + d) (ks.mv d) (r.mv d)
def Ex.mv (d : Nat) (e : Ex) : Ex := ⟨e.k, e.n, e.nm, e.a + d, e.kids.mv d⟩
theorem Fs.mv_app (d : Nat) : ∀ (x y : Fs), (x.app y).mv d = (x.mv d).app (y.mv d)
  | ⟨none⟩, y => rfl
  | ⟨some ⟨k, n, nm, a, ks, r⟩⟩, y => by simp only [Fs.app, Fs.mv]; rw [Fs.mv_app d r y]
theorem one_mv (d : Nat) (e : Ex) : (one e).mv d = one (e.mv d) := rfl
theorem Fs.mv_snoc (d : Nat) (x : Fs) (e : Ex) : (x.snoc e).mv d = (x.mv d).snoc (e.mv d) := by unfold Fs.snoc; rw [Fs.mv_app, one_mv]
theorem Fs.mv_head (d : Nat) {x : Fs} (h : x ≠ .nil) : (x.mv d).head = x.head.mv d := by
  cases x using Fs.on with
  | nil => exact absurd rfl h
  | cons k n nm a ks r => rfl

/-- What two readers come to: where the one takes a text and leaves at least v, the other one takes it as well, all places by d more, and leaves v' for v; or it is too deep there. -/
def Sim {α : Type} (mv : α → α) (g d : Nat) (v v' : List Tk) (R R' : Rs α) : Prop :=
  ∀ x t, R = .ok x t → v.length ≤ t.length → ∃ u, t = u ++ v ∧ (R' = .ok (mv x) (u.map (mvT d) ++ v') ∨ g ≠ 0 ∧ ∃ a, R' = .bad 121 a ∧ 0 < a)
section
variable {g d : Nat} {v v' : List Tk}
theorem Sim.bind {α β : Type} {mv : α → α} {mw : β → β} {R R' : Rs α} {f f' : α → List Tk → Rs β} (h : Sim mv g d v v' R R') (hl : ∀ x t, Lq t (f x t)) (hf : ∀ x u, Sim mw g d v v' (f x (u ++ v)) (f' (mv x) (u.map (mvT d) ++ v'))) : Sim mw g d v v' (R.bind f) (R'.bind f') := by
  intro y t2 e hv
  cases R using Rs.on with
  | out => cases e
  | bad e a => cases e
  | ok x t =>
    have e : f x t = .ok y t2 := e
    have h2 := (hl x t y t2 e).length_le
    obtain ⟨u, rfl, h3⟩ := h x t rfl (by omega)
    rcases h3 with h3 | ⟨hg, a, h3, ha⟩
    · rw [h3]
      exact hf x u y t2 e hv
    · obtain ⟨u2, h4, _⟩ := hf x u y t2 e hv
      exact ⟨u2, h4, .inr ⟨hg, a, by rw [h3]; rfl, ha⟩⟩
theorem Sim.bad {α : Type} {mv : α → α} {e a : Nat} {R' : Rs α} : Sim mv g d v v' (.bad e a) R' := fun x t h => by cases h
theorem Sim.out {α : Type} {mv : α → α} {R' : Rs α} : Sim mv g d v v' .out R' := fun x t h => by cases h
theorem Sim.ok {α : Type} {mv : α → α} (x : α) (u : List Tk) {y : α} (h : y = mv x) : Sim mv g d v v' (.ok x (u ++ v)) (.ok y (u.map (mvT d) ++ v')) := fun x' t e _ => by
  obtain ⟨e1, e2⟩ := Rs.ok_inj e
  subst e1 e2
  exact ⟨u, rfl, .inl (by rw [h])⟩
theorem Sim.short {α : Type} {mv : α → α} {b : List Tk} {R R' : Rs α} (h : Lq b R) (hb : b.length < v.length) : Sim mv g d v v' R R' := fun x t e hv => by
  have := (h x t e).length_le
  omega
/-- The tokens at which both stop. -/
structure Stops (g d : Nat) (v v' : List Tk) : Prop where
  d : g ≠ 0 → 0 < d
  v : ∃ h r, v = h :: r ∧ (h.k = 0 ∧ h.t = [] ∨ h.k = 4 ∧ h.t = [41])
  v' : ∃ h r, v' = h :: r ∧ h.k = 4 ∧ h.t = [41]
theorem sim_pass (S : Stops g d v v') (s : List UInt8) (u : List Tk) : Sim (fun a => a + d) g d v v' (passT s (u ++ v)) (passT s (u.map (mvT d) ++ v')) := by
  cases u with
  | nil =>
    obtain ⟨h, r, rfl, _⟩ := S.v
    simp only [List.nil_append, passT]
    split
    · exact Sim.short (b := r) (Lq.ok _ (List.suffix_refl _)) (by simp)
    · exact Sim.bad
  | cons x u =>
    simp only [List.cons_append, List.map_cons, passT, mvT]
    split
    · exact Sim.ok _ u rfl
    · exact Sim.bad
theorem sim_kind (S : Stops g d v v') (k : Nat) (u : List Tk) : Sim (mvT d) g d v v' (passK k (u ++ v)) (passK k (u.map (mvT d) ++ v')) := by
  cases u with
  | nil =>
    obtain ⟨h, r, rfl, _⟩ := S.v
    simp only [List.nil_append, passK]
    split
    · exact Sim.short (b := r) (Lq.ok _ (List.suffix_refl _)) (by simp)
    · exact Sim.bad
  | cons x u =>
    simp only [List.cons_append, List.map_cons, passK, mvT]
    split
    · exact Sim.ok _ u rfl
    · exact Sim.bad
theorem sim_enter (S : Stops g d v v') (s : List UInt8) (o : Nat) (u : List Tk) : Sim (fun a => a + d) g d v v' (enterT s o (u ++ v)) (enterT s (o + g) (u.map (mvT d) ++ v')) := by
  cases u with
  | nil =>
    obtain ⟨h, r, rfl, _⟩ := S.v
    simp only [List.nil_append, enterT]
    split
    · split
      · exact Sim.bad
      · exact Sim.short (b := r) (Lq.ok _ (List.suffix_refl _)) (by simp)
    · exact Sim.bad
  | cons x u =>
    simp only [List.cons_append, List.map_cons, enterT, mvT]
    split
    · split
      · exact Sim.bad
      · by_cases hg : o + g = 64
        · rw [if_pos hg]
          intro y t e hv
          obtain ⟨_, e⟩ := Rs.ok_inj e
          exact ⟨u, e.symm, .inr ⟨by omega, _, rfl, by have := S.d (by omega); omega⟩⟩
        · rw [if_neg hg]
          exact Sim.ok _ u rfl
    · exact Sim.bad
variable {rec : Rdr}
theorem sim_argsL (S : Stops g d v v') (L : ∀ row o q ts b, ts <:+ b → Lq b (rec row o q ts)) (H : ∀ row o q u, Sim (Ex.mv d) g d v v' (rec row o q (u ++ v)) (rec row (o + g) q (u.map (mvT d) ++ v'))) : ∀ (j : Nat) (o q : Nat) (acc : Fs) (u : List Tk), Sim (Fs.mv d) g d v v' (argsL rec j o q acc (u ++ v)) (argsL rec j (o + g) q (acc.mv d) (u.map (mvT d) ++ v'))
  | 0, o, q, acc, u => Sim.ok _ u rfl
  | j + 1, o, q, acc, u => by
    unfold argsL
    refine (sim_pass S [44] u).bind (fun _ t => (L _ _ _ _ _ (List.suffix_refl _)).bind fun e t2 h2 => lq_argsL L _ _ _ _ _ _ h2) fun _ u1 => ?_
    refine (H 1 o q u1).bind (fun _ t => lq_argsL L _ _ _ _ _ _ (List.suffix_refl _)) fun e u2 => ?_
    have := sim_argsL S L H j o q (acc.snoc e) u2
    rw [Fs.mv_snoc] at this
    exact this
theorem sim_args (S : Stops g d v v') (L : ∀ row o q ts b, ts <:+ b → Lq b (rec row o q ts)) (H : ∀ row o q u, Sim (Ex.mv d) g d v v' (rec row o q (u ++ v)) (rec row (o + g) q (u.map (mvT d) ++ v'))) (many o q : Nat) (u : List Tk) : Sim (Fs.mv d) g d v v' (argsR rec many o q (u ++ v)) (argsR rec many (o + g) q (u.map (mvT d) ++ v')) := by
  unfold argsR
  have eo : o + g + 1 = o + 1 + g := by omega
  rw [eo]
  refine (sim_enter S [40] o u).bind (fun _ t => (L _ _ _ _ _ (List.suffix_refl _)).bind fun e t2 h2 => (lq_argsL L _ _ _ _ t2 _ h2).bind fun ks t3 h3 => (lq_pass _ h3).bind fun _ t4 h4 => Lq.ok _ h4) fun _ u1 => ?_
  refine (H 1 (o + 1) q u1).bind (fun _ t => (lq_argsL L _ _ _ _ t _ (List.suffix_refl _)).bind fun ks t3 h3 => (lq_pass _ h3).bind fun _ t4 h4 => Lq.ok _ h4) fun e u2 => ?_
  refine (sim_argsL S L H (many - 1) (o + 1) q (one e) u2).bind (fun ks t => (lq_pass _ (List.suffix_refl _)).bind fun _ t4 h4 => Lq.ok _ h4) fun ks u3 => ?_
  exact (sim_pass S [41] u3).bind (fun _ t => Lq.ok _ (List.suffix_refl _)) fun _ u4 => Sim.ok _ u4 rfl
theorem sim_choice (S : Stops g d v v') (L : ∀ row o q ts b, ts <:+ b → Lq b (rec row o q ts)) (H : ∀ row o q u, Sim (Ex.mv d) g d v v' (rec row o q (u ++ v)) (rec row (o + g) q (u.map (mvT d) ++ v'))) (o q : Nat) (u : List Tk) : Sim (Ex.mv d) g d v v' (choiceR rec o q (u ++ v)) (choiceR rec (o + g) q (u.map (mvT d) ++ v')) := by
  unfold choiceR
  have eo : o + g + 1 = o + 1 + g := by omega
  rw [eo]
  refine (sim_enter S _ o u).bind (fun _ t => (L _ _ _ _ _ (List.suffix_refl _)).bind fun e t2 h2 => (lq_pass _ h2).bind fun _ t3 h3 => (L _ _ _ _ _ h3).bind fun e t4 h4 => (lq_pass _ h4).bind fun _ t5 h5 => (L _ _ _ _ _ h5).bind fun e t6 h6 => Lq.ok _ h6) fun _ u1 => ?_
  refine (H 1 (o + 1) q u1).bind (fun _ t => (lq_pass _ (List.suffix_refl _)).bind fun _ t3 h3 => (L _ _ _ _ _ h3).bind fun e t4 h4 => (lq_pass _ h4).bind fun _ t5 h5 => (L _ _ _ _ _ h5).bind fun e t6 h6 => Lq.ok _ h6) fun _ u2 => ?_
  refine (sim_pass S _ u2).bind (fun _ t => (L _ _ _ _ _ (List.suffix_refl _)).bind fun e t4 h4 => (lq_pass _ h4).bind fun _ t5 h5 => (L _ _ _ _ _ h5).bind fun e t6 h6 => Lq.ok _ h6) fun _ u3 => ?_
  refine (H 1 (o + 1) q u3).bind (fun _ t => (lq_pass _ (List.suffix_refl _)).bind fun _ t5 h5 => (L _ _ _ _ _ h5).bind fun e t6 h6 => Lq.ok _ h6) fun _ u4 => ?_
  refine (sim_pass S _ u4).bind (fun _ t => (L _ _ _ _ _ (List.suffix_refl _)).bind fun e t6 h6 => Lq.ok _ h6) fun _ u5 => ?_
  refine (H 1 (o + 1) q u5).bind (fun _ t => Lq.ok _ (List.suffix_refl _)) fun _ u6 => Sim.ok _ u6 ?_
  simp only [Ex.mv, Fs.mv_snoc, one_mv, Int.natCast_add]
theorem sim_memL (S : Stops g d v v') (L : ∀ row o q ts b, ts <:+ b → Lq b (rec row o q ts)) (H : ∀ row o q u, Sim (Ex.mv d) g d v v' (rec row o q (u ++ v)) (rec row (o + g) q (u.map (mvT d) ++ v'))) : ∀ (m : Nat) (o q : Nat) (acc : Fs) (u : List Tk), Sim (Fs.mv d) g d v v' (memL rec m o q acc (u ++ v)) (memL rec m (o + g) q (acc.mv d) (u.map (mvT d) ++ v'))
  | 0, o, q, acc, u => Sim.out
  | m + 1, o, q, acc, [] => by
    obtain ⟨h, r, e, hh⟩ := S.v
    obtain ⟨h', r', e', hk', ht'⟩ := S.v'
    have n1 : h.t ≠ [44] := by rcases hh with ⟨_, hh⟩ | ⟨_, hh⟩ <;> rw [hh] <;> simp
    have e1 : memL rec (m + 1) o q acc ([] ++ v) = .ok acc ([] ++ v) := by rw [List.nil_append, e]; simp only [memL, n1, if_false]
    have e2 : memL rec (m + 1) (o + g) q (acc.mv d) (([] : List Tk).map (mvT d) ++ v') = .ok (acc.mv d) (([] : List Tk).map (mvT d) ++ v') := by rw [List.map_nil, List.nil_append, e']; simp [memL, ht']
    rw [e1, e2]
    exact Sim.ok _ [] rfl
  | m + 1, o, q, acc, x :: u => by
    by_cases hx : x.t = [44]
    · have e1 : memL rec (m + 1) o q acc (x :: u ++ v) = (rec 1 o q (u ++ v)).bind fun e t2 => memL rec m o q (acc.snoc e) t2 := by simp [memL, hx]
      have e2 : memL rec (m + 1) (o + g) q (acc.mv d) ((x :: u).map (mvT d) ++ v') = (rec 1 (o + g) q (u.map (mvT d) ++ v')).bind fun e t2 => memL rec m (o + g) q ((acc.mv d).snoc e) t2 := by simp [memL, hx, mvT]
      rw [e1, e2]
      refine (H 1 o q u).bind (fun _ t => lq_memL L _ _ _ _ _ _ (List.suffix_refl _)) fun e u2 => ?_
      have := sim_memL S L H m o q (acc.snoc e) u2
      rw [Fs.mv_snoc] at this
      exact this
    · have e1 : memL rec (m + 1) o q acc (x :: u ++ v) = .ok acc (x :: u ++ v) := by simp [memL, hx]
      have e2 : memL rec (m + 1) (o + g) q (acc.mv d) ((x :: u).map (mvT d) ++ v') = .ok (acc.mv d) ((x :: u).map (mvT d) ++ v') := by simp [memL, hx, mvT]
      rw [e1, e2]
      exact Sim.ok _ (x :: u) rfl
theorem sim_mem (S : Stops g d v v') (L : ∀ row o q ts b, ts <:+ b → Lq b (rec row o q ts)) (H : ∀ row o q u, Sim (Ex.mv d) g d v v' (rec row o q (u ++ v)) (rec row (o + g) q (u.map (mvT d) ++ v'))) (m o q : Nat) (u : List Tk) : Sim (Fs.mv d) g d v v' (memR rec m o q (u ++ v)) (memR rec m (o + g) q (u.map (mvT d) ++ v')) := by
  cases u with
  | nil =>
    obtain ⟨h, r, e, hh⟩ := S.v
    obtain ⟨h', r', e', hk', ht'⟩ := S.v'
    have n1 : h.t ≠ [125] := by rcases hh with ⟨_, hh⟩ | ⟨_, hh⟩ <;> rw [hh] <;> simp
    have e1 : memR rec m o q ([] ++ v) = (rec 1 o q ([] ++ v)).bind fun e t1 => memL rec m o q (one e) t1 := by rw [List.nil_append, e]; simp only [memR, n1, if_false]
    have e2 : memR rec m (o + g) q (([] : List Tk).map (mvT d) ++ v') = (rec 1 (o + g) q (([] : List Tk).map (mvT d) ++ v')).bind fun e t1 => memL rec m (o + g) q (one e) t1 := by rw [List.map_nil, List.nil_append, e']; simp [memR, ht']
    rw [e1, e2]
    exact (H 1 o q []).bind (fun _ t => lq_memL L _ _ _ _ _ _ (List.suffix_refl _)) fun e u2 => sim_memL S L H m o q (one e) u2
  | cons x u =>
    by_cases hx : x.t = [125]
    · have e1 : memR rec m o q (x :: u ++ v) = .ok .nil (x :: u ++ v) := by simp [memR, hx]
      have e2 : memR rec m (o + g) q ((x :: u).map (mvT d) ++ v') = .ok .nil ((x :: u).map (mvT d) ++ v') := by simp [memR, hx, mvT]
      rw [e1, e2]
      exact Sim.ok _ (x :: u) rfl
    · have e1 : memR rec m o q (x :: u ++ v) = (rec 1 o q (x :: u ++ v)).bind fun e t1 => memL rec m o q (one e) t1 := by simp [memR, hx]
      have e2 : memR rec m (o + g) q ((x :: u).map (mvT d) ++ v') = (rec 1 (o + g) q ((x :: u).map (mvT d) ++ v')).bind fun e t1 => memL rec m (o + g) q (one e) t1 := by simp [memR, hx, mvT]
      rw [e1, e2]
      exact (H 1 o q (x :: u)).bind (fun _ t => lq_memL L _ _ _ _ _ _ (List.suffix_refl _)) fun e u2 => sim_memL S L H m o q (one e) u2
theorem sim_set (S : Stops g d v v') (L : ∀ row o q ts b, ts <:+ b → Lq b (rec row o q ts)) (H : ∀ row o q u, Sim (Ex.mv d) g d v v' (rec row o q (u ++ v)) (rec row (o + g) q (u.map (mvT d) ++ v'))) (m o q : Nat) (u : List Tk) : Sim (Ex.mv d) g d v v' (setR rec m o q (u ++ v)) (setR rec m (o + g) q (u.map (mvT d) ++ v')) := by
  have eo : o + g + 1 = o + 1 + g := by omega
  have LB : ∀ (a : Nat) t, Lq t ((memR rec m (o + 1) q t).bind fun ks t2 => (passT [125] t2).bind fun _ t3 => .ok (⟨25, 0, [], a, ks⟩ : Ex) t3) := fun a t => (lq_mem L m _ q (List.suffix_refl _)).bind fun ks t2 h2 => (lq_pass _ h2).bind fun _ t3 h3 => Lq.ok _ h3
  have B : Sim (Ex.mv d) g d v v' ((enterT [123] o (u ++ v)).bind fun a t1 => (memR rec m (o + 1) q t1).bind fun ks t2 => (passT [125] t2).bind fun _ t3 => .ok ⟨25, 0, [], a, ks⟩ t3) ((enterT [123] (o + g) (u.map (mvT d) ++ v')).bind fun a t1 => (memR rec m (o + g + 1) q t1).bind fun ks t2 => (passT [125] t2).bind fun _ t3 => .ok ⟨25, 0, [], a, ks⟩ t3) := by
    rw [eo]
    refine (sim_enter S [123] o u).bind LB fun _ u1 => ?_
    refine (sim_mem S L H m (o + 1) q u1).bind (fun _ t => (lq_pass _ (List.suffix_refl _)).bind fun _ t3 h3 => Lq.ok _ h3) fun ks u2 => ?_
    exact (sim_pass S [125] u2).bind (fun _ t => Lq.ok _ (List.suffix_refl _)) fun _ u3 => Sim.ok _ u3 (by simp [Ex.mv])
  cases u with
  | nil =>
    obtain ⟨h, r, e, hh⟩ := S.v
    have n1 : h.k ≠ 2 := by rcases hh with ⟨hh, _⟩ | ⟨hh, _⟩ <;> rw [hh] <;> decide
    have n2 : h.t ≠ [118, 101, 114, 116, 105, 99, 101, 115] := by rcases hh with ⟨_, hh⟩ | ⟨_, hh⟩ <;> rw [hh] <;> simp
    have n3 : h.t ≠ [97, 114, 111, 117, 110, 100] := by rcases hh with ⟨_, hh⟩ | ⟨_, hh⟩ <;> rw [hh] <;> simp
    have n4 : h.t ≠ [123] := by rcases hh with ⟨_, hh⟩ | ⟨_, hh⟩ <;> rw [hh] <;> simp
    have e1 : setR rec m o q ([] ++ v) = .bad 120 h.a := by rw [List.nil_append, e]; simp only [setR, n1, n2, n3, n4, if_false, enterT, Rs.bind]
    rw [e1]
    exact Sim.bad
  | cons x u =>
    by_cases h1 : x.k = 2
    · have e1 : setR rec m o q (x :: u ++ v) = .ok ⟨23, 0, x.t, x.a, .nil⟩ (u ++ v) := by simp [setR, h1]
      have e2 : setR rec m (o + g) q ((x :: u).map (mvT d) ++ v') = .ok ⟨23, 0, x.t, ((x.a + d : Nat) : Int), .nil⟩ (u.map (mvT d) ++ v') := by simp [setR, h1, mvT]
      rw [e1, e2]
      exact Sim.ok _ u (by simp [Ex.mv, Fs.mv])
    by_cases h2 : x.t = [118, 101, 114, 116, 105, 99, 101, 115]
    · have e1 : setR rec m o q (x :: u ++ v) = .ok ⟨22, 0, [], x.a, .nil⟩ (u ++ v) := by simp [setR, h1, h2]
      have e2 : setR rec m (o + g) q ((x :: u).map (mvT d) ++ v') = .ok ⟨22, 0, [], ((x.a + d : Nat) : Int), .nil⟩ (u.map (mvT d) ++ v') := by simp [setR, h1, h2, mvT]
      rw [e1, e2]
      exact Sim.ok _ u (by simp [Ex.mv, Fs.mv])
    by_cases h3 : x.t = [97, 114, 111, 117, 110, 100]
    · have e1 : setR rec m o q (x :: u ++ v) = (argsR rec 1 o q (u ++ v)).bind fun ks t => .ok ⟨24, 0, [], x.a, ks⟩ t := by simp [setR, h1, h3]
      have e2 : setR rec m (o + g) q ((x :: u).map (mvT d) ++ v') = (argsR rec 1 (o + g) q (u.map (mvT d) ++ v')).bind fun ks t => .ok ⟨24, 0, [], ((x.a + d : Nat) : Int), ks⟩ t := by simp [setR, h1, h3, mvT]
      rw [e1, e2]
      exact (sim_args S L H 1 o q u).bind (fun _ t => Lq.ok _ (List.suffix_refl _)) fun ks u2 => Sim.ok _ u2 (by simp [Ex.mv])
    · have e1 : setR rec m o q (x :: u ++ v) = (enterT [123] o (x :: u ++ v)).bind fun a t1 => (memR rec m (o + 1) q t1).bind fun ks t2 => (passT [125] t2).bind fun _ t3 => .ok ⟨25, 0, [], a, ks⟩ t3 := by simp [setR, h1, h2, h3]
      have e2 : setR rec m (o + g) q ((x :: u).map (mvT d) ++ v') = (enterT [123] (o + g) ((x :: u).map (mvT d) ++ v')).bind fun a t1 => (memR rec m (o + g + 1) q t1).bind fun ks t2 => (passT [125] t2).bind fun _ t3 => .ok ⟨25, 0, [], a, ks⟩ t3 := by simp [setR, h1, h2, h3, mvT]
      rw [e1, e2]
      exact B
theorem sim_quant (S : Stops g d v v') (L : ∀ row o q ts b, ts <:+ b → Lq b (rec row o q ts)) (H : ∀ row o q u, Sim (Ex.mv d) g d v v' (rec row o q (u ++ v)) (rec row (o + g) q (u.map (mvT d) ++ v'))) (m : Nat) (s : List UInt8) (k o q : Nat) (x : Tk) (u : List Tk) : Sim (Ex.mv d) g d v v' (quantR rec m s k o q (x :: u ++ v)) (quantR rec m s k (o + g) q ((x :: u).map (mvT d) ++ v')) := by
  have eo : o + g + 1 = o + 1 + g := by omega
  by_cases hq : q = 4
  · have e1 : quantR rec m s k o q (x :: u ++ v) = .bad 121 x.a := by simp [quantR, hq]
    rw [e1]
    exact Sim.bad
  have e1 : quantR rec m s k o q (x :: u ++ v) = (enterT s o (x :: u ++ v)).bind fun a t1 => (passK 2 t1).bind fun y t2 => (passT [105, 110] t2).bind fun _ t3 => (setR rec m (o + 1) (q + 1) t3).bind fun e t4 => (passT [58] t4).bind fun _ t5 => (rec 1 (o + 1) (q + 1) t5).bind fun b t6 => .ok ⟨21, (k : Nat), y.t, a, (one e).snoc b⟩ t6 := by simp [quantR, hq]
  have e2 : quantR rec m s k (o + g) q ((x :: u).map (mvT d) ++ v') = (enterT s (o + g) ((x :: u).map (mvT d) ++ v')).bind fun a t1 => (passK 2 t1).bind fun y t2 => (passT [105, 110] t2).bind fun _ t3 => (setR rec m (o + g + 1) (q + 1) t3).bind fun e t4 => (passT [58] t4).bind fun _ t5 => (rec 1 (o + g + 1) (q + 1) t5).bind fun b t6 => .ok ⟨21, (k : Nat), y.t, a, (one e).snoc b⟩ t6 := by simp [quantR, hq]
  rw [e1, e2, eo]
  refine (sim_enter S s o (x :: u)).bind (fun _ t => (lq_kind _ (List.suffix_refl _)).bind fun _ t2 h2 => (lq_pass _ h2).bind fun _ t3 h3 => (lq_set L m _ _ h3).bind fun _ t4 h4 => (lq_pass _ h4).bind fun _ t5 h5 => (L _ _ _ _ _ h5).bind fun e t6 h6 => Lq.ok _ h6) fun _ u1 => ?_
  refine (sim_kind S 2 u1).bind (fun _ t => (lq_pass _ (List.suffix_refl _)).bind fun _ t3 h3 => (lq_set L m _ _ h3).bind fun _ t4 h4 => (lq_pass _ h4).bind fun _ t5 h5 => (L _ _ _ _ _ h5).bind fun e t6 h6 => Lq.ok _ h6) fun y u2 => ?_
  refine (sim_pass S _ u2).bind (fun _ t => (lq_set L m _ _ (List.suffix_refl _)).bind fun _ t4 h4 => (lq_pass _ h4).bind fun _ t5 h5 => (L _ _ _ _ _ h5).bind fun e t6 h6 => Lq.ok _ h6) fun _ u3 => ?_
  refine (sim_set S L H m (o + 1) (q + 1) u3).bind (fun _ t => (lq_pass _ (List.suffix_refl _)).bind fun _ t5 h5 => (L _ _ _ _ _ h5).bind fun e t6 h6 => Lq.ok _ h6) fun _ u4 => ?_
  refine (sim_pass S _ u4).bind (fun _ t => (L _ _ _ _ _ (List.suffix_refl _)).bind fun e t6 h6 => Lq.ok _ h6) fun _ u5 => ?_
  refine (H 1 (o + 1) (q + 1) u5).bind (fun _ t => Lq.ok _ (List.suffix_refl _)) fun _ u6 => Sim.ok _ u6 ?_
  simp [Ex.mv, Fs.mv_snoc, one_mv, mvT]
end
end Go.Proofs.YtfpmaeflmboalaaGreatDoor
namespace Go.Proofs.YtfpmaeflmboalaaGreatDoor
set_option linter.unusedVariables false

/-- A query in parentheses. -/
def parR (rec : Rdr) (o q : Nat) (ts : List Tk) : Rs Ex := (enterT [40] o ts).bind fun _ t1 => (rec 1 (o + 1) q t1).bind fun e t2 => (passT [41] t2).bind fun _ t4 => .ok e t4
theorem par_args (rec : Rdr) (o q : Nat) (ts : List Tk) : ((argsR rec 1 o q ts).bind fun ks t1 => .ok ks.head t1) = parR rec o q ts := by
  unfold argsR parR
  cases enterT [40] o ts using Rs.on with
  | out => rfl
  | bad e a => rfl
  | ok a t1 =>
    show (((rec 1 (o + 1) q t1).bind fun e t2 => (argsL rec 0 (o + 1) q (one e) t2).bind fun ks t3 => (passT [41] t3).bind fun _ t4 => .ok ks t4).bind fun ks t1 => .ok ks.head t1) = (rec 1 (o + 1) q t1).bind fun e t2 => (passT [41] t2).bind fun _ t4 => .ok e t4
    cases rec 1 (o + 1) q t1 using Rs.on with
    | out => rfl
    | bad e a => rfl
    | ok e t2 =>
      show (((passT [41] t2).bind fun _ t4 => Rs.ok (one e) t4).bind fun ks t1 => .ok ks.head t1) = (passT [41] t2).bind fun _ t4 => .ok e t4
      cases passT [41] t2 using Rs.on with
      | out => rfl
      | bad e a => rfl
      | ok a t4 => rfl
section
variable {g d : Nat} {v v' : List Tk} {rec : Rdr}
theorem sim_par (S : Stops g d v v') (L : ∀ row o q ts b, ts <:+ b → Lq b (rec row o q ts)) (H : ∀ row o q u, Sim (Ex.mv d) g d v v' (rec row o q (u ++ v)) (rec row (o + g) q (u.map (mvT d) ++ v'))) (o q : Nat) (u : List Tk) : Sim (Ex.mv d) g d v v' (parR rec o q (u ++ v)) (parR rec (o + g) q (u.map (mvT d) ++ v')) := by
  unfold parR
  have eo : o + g + 1 = o + 1 + g := by omega
  rw [eo]
  refine (sim_enter S [40] o u).bind (fun _ t => (L _ _ _ _ _ (List.suffix_refl _)).bind fun e t2 h2 => (lq_pass _ h2).bind fun _ t4 h4 => Lq.ok _ h4) fun _ u1 => ?_
  refine (H 1 (o + 1) q u1).bind (fun _ t => (lq_pass _ (List.suffix_refl _)).bind fun _ t4 h4 => Lq.ok _ h4) fun e u2 => ?_
  exact (sim_pass S [41] u2).bind (fun _ t => Lq.ok _ (List.suffix_refl _)) fun _ u4 => Sim.ok _ u4 rfl
theorem sim_atom (S : Stops g d v v') (L : ∀ row o q ts b, ts <:+ b → Lq b (rec row o q ts)) (H : ∀ row o q u, Sim (Ex.mv d) g d v v' (rec row o q (u ++ v)) (rec row (o + g) q (u.map (mvT d) ++ v'))) (m o q : Nat) (u : List Tk) : Sim (Ex.mv d) g d v v' (atomR rec m o q (u ++ v)) (atomR rec m (o + g) q (u.map (mvT d) ++ v')) := by
  cases u with
  | nil =>
    obtain ⟨h, r, e, hh⟩ := S.v
    have e1 : atomR rec m o q ([] ++ v) = .bad 120 h.a := by
      rw [List.nil_append, e]
      rcases hh with ⟨h1, h2⟩ | ⟨h1, h2⟩
      · simp [atomR, h1, h2, callAt, quantAt, callsL, quantsL]
      · simp [atomR, h1, h2, callAt, quantAt, callsL, quantsL]
    rw [e1]
    exact Sim.bad
  | cons x u =>
    by_cases h1 : x.k = 1
    · have e1 : atomR rec m o q (x :: u ++ v) = .ok ⟨1, x.n, [], x.a, .nil⟩ (u ++ v) := by simp [atomR, h1]
      have e2 : atomR rec m (o + g) q ((x :: u).map (mvT d) ++ v') = .ok ⟨1, x.n, [], ((x.a + d : Nat) : Int), .nil⟩ (u.map (mvT d) ++ v') := by simp [atomR, h1, mvT]
      rw [e1, e2]
      exact Sim.ok _ u (by simp [Ex.mv, Fs.mv])
    by_cases h2 : x.k = 2
    · have e1 : atomR rec m o q (x :: u ++ v) = .ok ⟨4, 0, x.t, x.a, .nil⟩ (u ++ v) := by simp [atomR, h2]
      have e2 : atomR rec m (o + g) q ((x :: u).map (mvT d) ++ v') = .ok ⟨4, 0, x.t, ((x.a + d : Nat) : Int), .nil⟩ (u.map (mvT d) ++ v') := by simp [atomR, h2, mvT]
      rw [e1, e2]
      exact Sim.ok _ u (by simp [Ex.mv, Fs.mv])
    by_cases h3 : x.t = [102, 97, 108, 115, 101]
    · have e1 : atomR rec m o q (x :: u ++ v) = .ok ⟨2, 0, [], x.a, .nil⟩ (u ++ v) := by simp [atomR, h1, h2, h3]
      have e2 : atomR rec m (o + g) q ((x :: u).map (mvT d) ++ v') = .ok ⟨2, 0, [], ((x.a + d : Nat) : Int), .nil⟩ (u.map (mvT d) ++ v') := by simp [atomR, h1, h2, h3, mvT]
      rw [e1, e2]
      exact Sim.ok _ u (by simp [Ex.mv, Fs.mv])
    by_cases h4 : x.t = [116, 114, 117, 101]
    · have e1 : atomR rec m o q (x :: u ++ v) = .ok ⟨2, 1, [], x.a, .nil⟩ (u ++ v) := by simp [atomR, h1, h2, h4]
      have e2 : atomR rec m (o + g) q ((x :: u).map (mvT d) ++ v') = .ok ⟨2, 1, [], ((x.a + d : Nat) : Int), .nil⟩ (u.map (mvT d) ++ v') := by simp [atomR, h1, h2, h4, mvT]
      rw [e1, e2]
      exact Sim.ok _ u (by simp [Ex.mv, Fs.mv])
    by_cases h5 : x.t = [64]
    · have e1 : atomR rec m o q (x :: u ++ v) = (passK 1 (u ++ v)).bind fun y t1 => .ok ⟨3, y.n, [], x.a, .nil⟩ t1 := by simp [atomR, h1, h2, h5]
      have e2 : atomR rec m (o + g) q ((x :: u).map (mvT d) ++ v') = (passK 1 (u.map (mvT d) ++ v')).bind fun y t1 => .ok ⟨3, y.n, [], ((x.a + d : Nat) : Int), .nil⟩ t1 := by simp [atomR, h1, h2, h5, mvT]
      rw [e1, e2]
      exact (sim_kind S 1 u).bind (fun _ t => Lq.ok _ (List.suffix_refl _)) fun y u1 => Sim.ok _ u1 (by simp [Ex.mv, Fs.mv, mvT])
    by_cases h6 : x.t = [40]
    · have e1 : atomR rec m o q (x :: u ++ v) = parR rec o q (x :: u ++ v) := by rw [← par_args]; simp [atomR, h1, h2, h6]
      have e2 : atomR rec m (o + g) q ((x :: u).map (mvT d) ++ v') = parR rec (o + g) q ((x :: u).map (mvT d) ++ v') := by rw [← par_args]; simp [atomR, h1, h2, h6, mvT]
      rw [e1, e2]
      exact sim_par S L H o q (x :: u)
    by_cases h7 : x.t = [105, 102]
    · have e1 : atomR rec m o q (x :: u ++ v) = choiceR rec o q (x :: u ++ v) := by simp [atomR, h1, h2, h7]
      have e2 : atomR rec m (o + g) q ((x :: u).map (mvT d) ++ v') = choiceR rec (o + g) q ((x :: u).map (mvT d) ++ v') := by simp [atomR, h1, h2, h7, mvT]
      rw [e1, e2]
      exact sim_choice S L H o q (x :: u)
    cases hc : callAt x.t with
    | some z =>
      obtain ⟨a, k, many⟩ := z
      have e1 : atomR rec m o q (x :: u ++ v) = (argsR rec many o q (u ++ v)).bind fun ks t1 => .ok ⟨20, (k : Nat), [], x.a, ks⟩ t1 := by simp [atomR, h1, h2, h3, h4, h5, h6, h7, hc]
      have e2 : atomR rec m (o + g) q ((x :: u).map (mvT d) ++ v') = (argsR rec many (o + g) q (u.map (mvT d) ++ v')).bind fun ks t1 => .ok ⟨20, (k : Nat), [], ((x.a + d : Nat) : Int), ks⟩ t1 := by simp [atomR, h1, h2, h3, h4, h5, h6, h7, hc, mvT]
      rw [e1, e2]
      exact (sim_args S L H many o q u).bind (fun _ t => Lq.ok _ (List.suffix_refl _)) fun ks u1 => Sim.ok _ u1 (by simp [Ex.mv])
    | none =>
      cases hq : quantAt x.t with
      | some z =>
        obtain ⟨a, k⟩ := z
        have e1 : atomR rec m o q (x :: u ++ v) = quantR rec m x.t k o q (x :: u ++ v) := by simp [atomR, h1, h2, h3, h4, h5, h6, h7, hc, hq]
        have e2 : atomR rec m (o + g) q ((x :: u).map (mvT d) ++ v') = quantR rec m x.t k (o + g) q ((x :: u).map (mvT d) ++ v') := by simp [atomR, h1, h2, h3, h4, h5, h6, h7, hc, hq, mvT]
        rw [e1, e2]
        exact sim_quant S L H m x.t k o q x u
      | none =>
        have e1 : atomR rec m o q (x :: u ++ v) = .bad 120 x.a := by simp [atomR, h1, h2, h3, h4, h5, h6, h7, hc, hq]
        rw [e1]
        exact Sim.bad
theorem sim_pref (S : Stops g d v v') (L : ∀ row o q ts b, ts <:+ b → Lq b (rec row o q ts)) (H : ∀ row o q u, Sim (Ex.mv d) g d v v' (rec row o q (u ++ v)) (rec row (o + g) q (u.map (mvT d) ++ v'))) (s : List UInt8) (hs : s ≠ [41] ∧ s ≠ []) (k : Int) (row o q : Nat) (u : List Tk) : Sim (Ex.mv d) g d v v' (prefR rec s k row o q (u ++ v)) (prefR rec s k row (o + g) q (u.map (mvT d) ++ v')) := by
  have eo : o + g + 1 = o + 1 + g := by omega
  have _ := L
  cases u with
  | nil =>
    obtain ⟨h, r, e, hh⟩ := S.v
    obtain ⟨h', r', e', hk', ht'⟩ := S.v'
    have n1 : h.t ≠ s := by
      rcases hh with ⟨_, hh⟩ | ⟨_, hh⟩ <;> rw [hh]
      · exact hs.2.symm
      · exact hs.1.symm
    have n2 : h'.t ≠ s := by rw [ht']; exact hs.1.symm
    have e1 : prefR rec s k row o q ([] ++ v) = rec (row + 1) o q ([] ++ v) := by rw [List.nil_append, e]; simp only [prefR, n1, if_false]
    have e2 : prefR rec s k row (o + g) q (([] : List Tk).map (mvT d) ++ v') = rec (row + 1) (o + g) q (([] : List Tk).map (mvT d) ++ v') := by rw [List.map_nil, List.nil_append, e']; simp only [prefR, n2, if_false]
    rw [e1, e2]
    exact H _ _ _ []
  | cons x u =>
    by_cases hx : x.t = s
    · by_cases ho : o = 64
      · have e1 : prefR rec s k row o q (x :: u ++ v) = .bad 121 x.a := by simp [prefR, hx, ho]
        rw [e1]
        exact Sim.bad
      have e1 : prefR rec s k row o q (x :: u ++ v) = (rec row (o + 1) q (u ++ v)).bind fun kid t2 => .ok ⟨k, 0, [], x.a, one kid⟩ t2 := by simp [prefR, hx, ho]
      rw [e1]
      by_cases ho2 : o + g = 64
      · have e2 : prefR rec s k row (o + g) q ((x :: u).map (mvT d) ++ v') = .bad 121 (x.a + d) := by simp [prefR, hx, ho2, mvT]
        rw [e2]
        intro y t e hv
        have h3 : Sim (Ex.mv d) g d v v' ((rec row (o + 1) q (u ++ v)).bind fun kid t2 => .ok ⟨k, 0, [], x.a, one kid⟩ t2) ((rec row (o + 1 + g) q (u.map (mvT d) ++ v')).bind fun kid t2 => .ok ⟨k, 0, [], ((x.a + d : Nat) : Int), one kid⟩ t2) :=
          (H row (o + 1) q u).bind (fun _ t => Lq.ok _ (List.suffix_refl _)) fun kid u1 => Sim.ok _ u1 (by simp [Ex.mv, one_mv])
        obtain ⟨u2, h4, _⟩ := h3 y t e hv
        exact ⟨u2, h4, .inr ⟨by omega, _, rfl, by have := S.d (by omega); omega⟩⟩
      · have e2 : prefR rec s k row (o + g) q ((x :: u).map (mvT d) ++ v') = (rec row (o + g + 1) q (u.map (mvT d) ++ v')).bind fun kid t2 => .ok ⟨k, 0, [], ((x.a + d : Nat) : Int), one kid⟩ t2 := by simp [prefR, hx, ho2, mvT]
        rw [e2, eo]
        exact (H row (o + 1) q u).bind (fun _ t => Lq.ok _ (List.suffix_refl _)) fun kid u1 => Sim.ok _ u1 (by simp [Ex.mv, one_mv])
    · have e1 : prefR rec s k row o q (x :: u ++ v) = rec (row + 1) o q (x :: u ++ v) := by simp [prefR, hx]
      have e2 : prefR rec s k row (o + g) q ((x :: u).map (mvT d) ++ v') = rec (row + 1) (o + g) q ((x :: u).map (mvT d) ++ v') := by simp [prefR, hx, mvT]
      rw [e1, e2]
      exact H _ _ _ (x :: u)
theorem sim_chainL (S : Stops g d v v') (L : ∀ row o q ts b, ts <:+ b → Lq b (rec row o q ts)) (H : ∀ row o q u, Sim (Ex.mv d) g d v v' (rec row o q (u ++ v)) (rec row (o + g) q (u.map (mvT d) ++ v'))) : ∀ (m row o q : Nat) (left : Ex) (u : List Tk), Sim (Ex.mv d) g d v v' (chainL rec m row o q left (u ++ v)) (chainL rec m row (o + g) q (left.mv d) (u.map (mvT d) ++ v'))
  | 0, row, o, q, left, u => Sim.out
  | m + 1, row, o, q, left, [] => by
    obtain ⟨h, r, e, hh⟩ := S.v
    obtain ⟨h', r', e', hk', ht'⟩ := S.v'
    have n1 : opAt h.t row = none := by rcases hh with ⟨_, hh⟩ | ⟨_, hh⟩ <;> rw [hh] <;> simp [opAt, opsL]
    have n2 : opAt h'.t row = none := by rw [ht']; simp [opAt, opsL]
    have e1 : chainL rec (m + 1) row o q left ([] ++ v) = .ok left ([] ++ v) := by rw [List.nil_append, e]; simp only [chainL, n1]
    have e2 : chainL rec (m + 1) row (o + g) q (left.mv d) (([] : List Tk).map (mvT d) ++ v') = .ok (left.mv d) (([] : List Tk).map (mvT d) ++ v') := by rw [List.map_nil, List.nil_append, e']; simp only [chainL, n2]
    rw [e1, e2]
    exact Sim.ok _ [] rfl
  | m + 1, row, o, q, left, x :: u => by
    cases hz : opAt x.t row with
    | none =>
      have e1 : chainL rec (m + 1) row o q left (x :: u ++ v) = .ok left (x :: u ++ v) := by simp [chainL, hz]
      have e2 : chainL rec (m + 1) row (o + g) q (left.mv d) ((x :: u).map (mvT d) ++ v') = .ok (left.mv d) ((x :: u).map (mvT d) ++ v') := by simp [chainL, hz, mvT]
      rw [e1, e2]
      exact Sim.ok _ (x :: u) rfl
    | some z =>
      obtain ⟨zt, zk, zr, zl, zz⟩ := z
      have e1 : chainL rec (m + 1) row o q left (x :: u ++ v) = (rec zz o q (u ++ v)).bind fun right t2 => if row < zl then .ok ⟨(zk : Nat), 0, [], x.a, (one left).snoc right⟩ t2 else chainL rec m row o q ⟨(zk : Nat), 0, [], x.a, (one left).snoc right⟩ t2 := by simp [chainL, hz]
      have e2 : chainL rec (m + 1) row (o + g) q (left.mv d) ((x :: u).map (mvT d) ++ v') = (rec zz (o + g) q (u.map (mvT d) ++ v')).bind fun right t2 => if row < zl then .ok ⟨(zk : Nat), 0, [], ((x.a + d : Nat) : Int), (one (left.mv d)).snoc right⟩ t2 else chainL rec m row (o + g) q ⟨(zk : Nat), 0, [], ((x.a + d : Nat) : Int), (one (left.mv d)).snoc right⟩ t2 := by simp [chainL, hz, mvT]
      rw [e1, e2]
      refine (H zz o q u).bind (fun r t => ?_) fun right u1 => ?_
      · split
        · exact Lq.ok _ (List.suffix_refl _)
        · exact lq_chainL L _ _ _ _ _ _ _ (List.suffix_refl _)
      · have em : (⟨(zk : Nat), 0, [], ((x.a + d : Nat) : Int), (one (left.mv d)).snoc (right.mv d)⟩ : Ex) = Ex.mv d ⟨(zk : Nat), 0, [], x.a, (one left).snoc right⟩ := by simp [Ex.mv, Fs.mv_snoc, one_mv]
        rw [em]
        split
        · exact Sim.ok _ u1 rfl
        · exact sim_chainL S L H m row o q _ u1
end
theorem sim_part {g d : Nat} {v v' : List Tk} (S : Stops g d v v') : ∀ (n row o q : Nat) (u : List Tk), Sim (Ex.mv d) g d v v' (partF n row o q (u ++ v)) (partF n row (o + g) q (u.map (mvT d) ++ v'))
  | 0, row, o, q, u => Sim.out
  | n + 1, row, o, q, u => by
    have H := sim_part S n
    have L := lq_part n
    unfold partF
    split
    · exact sim_pref S L H _ (by decide) _ _ _ _ u
    · split
      · exact sim_pref S L H _ (by decide) _ _ _ _ u
      · split
        · exact sim_atom S L H n o q u
        · exact (H _ _ _ u).bind (fun _ t => lq_chainL L _ _ _ _ _ _ _ (List.suffix_refl _)) fun l u1 => sim_chainL S L H n row o q l u1
end Go.Proofs.YtfpmaeflmboalaaGreatDoor
namespace Go.Proofs.YtfpmaeflmboalaaGreatDoor
set_option linter.unusedVariables false

/-- A text that is taken, and a byte behind it with which no piece goes on: what follows is read as it stands. -/
theorem lexL_thenG (k : Nat) (t : List UInt8) (a p : Nat) (l : List UInt8) (ts : List Tk) (c : UInt8) (m : List UInt8) (hb : ∀ k t, k ≠ 0 → tks k t c.toNat = false) (h : lexL k t a p l = .inr ts) :
    ∃ us, ts = us ++ [⟨0, 0, [], p + l.length⟩] ∧ lexL k t a p (l ++ c :: m) = preR us (lexL 0 [] (p + l.length) (p + l.length) (c :: m)) := by
  induction l generalizing k t a p ts with
  | nil =>
    rcases shut_inr h with ⟨rfl, h1⟩ | ⟨hk, x, us, hp, h1, h2⟩
    · injection h1 with h1
      exact ⟨[], h1.symm, lexL_blank _ _ _ _ _ _⟩
    · injection h1 with h1
      subst h1
      refine ⟨[x], h2, ?_⟩
      simp only [List.nil_append, List.length_nil, Nat.add_zero]
      rw [lexL_shut (hb k t hk)]
      unfold shutP
      rw [if_neg hk, hp]
      rfl
  | cons d r ih =>
    have e1 : p + (d :: r).length = p + 1 + r.length := by simp; omega
    rw [e1]
    cases ht : tks k t d.toNat
    · rw [lexL_no ht] at h
      rw [List.cons_append, lexL_no ht]
      rcases shut_inr h with ⟨rfl, h1⟩ | ⟨hk, x, us, hp, h1, h2⟩
      · obtain ⟨vs, h3, h4⟩ := ih _ _ _ _ _ h1
        refine ⟨vs, h3, ?_⟩
        rw [h4]
        rfl
      · obtain ⟨vs, h3, h4⟩ := ih _ _ _ _ _ h1
        refine ⟨x :: vs, by rw [h2, h3]; rfl, ?_⟩
        rw [h4]
        unfold shutP
        rw [if_neg hk, hp]
        rfl
    · rw [lexL_yes ht] at h
      rw [List.cons_append, lexL_yes ht]
      exact ih _ _ _ _ _ h
theorem par_tks (c : UInt8) (hc : c = 40 ∨ c = 41) (k : Nat) (t : List UInt8) (hk : k ≠ 0) : tks k t c.toNat = false := by
  unfold tks
  split
  · exact absurd rfl hk
  · rcases hc with rfl | rfl <;> rfl
  · rcases hc with rfl | rfl <;> rfl
  · rcases hc with rfl | rfl <;> rfl
  · rfl
/-- A sign of one byte that nothing goes on with. -/
theorem lex_one (c : UInt8) (q : Nat) (m : List UInt8) (h0 : blk c.toNat = false) (h3 : cls c.toNat = 3) (hn : c ≠ 33 ∧ c ≠ 60) : lexL 0 [] q q (c :: m) = consR ⟨4, 0, [c], q⟩ (lexL 0 [] (q + 1) (q + 1) m) := by
  have e1 : lexL 0 [] q q (c :: m) = lexL 3 [c] q (q + 1) m := by
    rw [lexL_no (k := 0) (by exact h0), h3]
    rfl
  rw [e1]
  have e2 : ∀ X, shutP 3 [c] q X = consR ⟨4, 0, [c], q⟩ X := fun X => by
    have : ¬ ([c] : List UInt8) = [33] := by simpa using hn.1
    simp [shutP, ptok, sgnT, this]
  cases m with
  | nil => rw [lexL_nil, e2]; rfl
  | cons b r =>
    have ht : tks 3 [c] b.toNat = false := by
      have : ([c] == [33] || [c] == [60]) = false := by simp [hn.1, hn.2]
      simp [tks, hn.1, hn.2]
    rw [lexL_shut ht, e2]
theorem lex_par (p : Nat) (l m : List UInt8) (ts : List Tk) (h : lexA l = .inr ts) : ∃ us, ts = us ++ [⟨0, 0, [], l.length⟩] ∧
    lexL 0 [] p p (40 :: (l ++ 41 :: m)) = preR (⟨4, 0, [40], p⟩ :: (us.map (mvT (p + 1)) ++ [⟨4, 0, [41], p + 1 + l.length⟩])) (lexL 0 [] (p + 2 + l.length) (p + 2 + l.length) m) := by
  obtain ⟨us, h1, _⟩ := lexL_thenG 0 [] 0 0 l ts 41 m (par_tks 41 (.inr rfl)) h
  rw [Nat.zero_add] at h1
  refine ⟨us, h1, ?_⟩
  rw [lex_one 40 p _ (by decide) (by decide) (by decide)]
  have hm : lexL 0 [] (p + 1) (p + 1) l = .inr (ts.map (mvT (p + 1))) := by
    have := lexL_mv 0 [] 0 0 (p + 1) l
    rw [Nat.zero_add] at this
    rw [this]
    show mvR _ (lexA l) = _
    rw [h]
    rfl
  obtain ⟨vs, h2, h3⟩ := lexL_thenG 0 [] (p + 1) (p + 1) l _ 41 m (par_tks 41 (.inr rfl)) hm
  have hv : vs = us.map (mvT (p + 1)) := by
    rw [h1, List.map_append] at h2
    exact (List.append_inj_left' h2 rfl).symm
  rw [h3, hv, lex_one 41 _ _ (by decide) (by decide) (by decide)]
  have e1 : p + 1 + l.length + 1 = p + 2 + l.length := by omega
  rw [e1]
  show consR _ (preR _ (consR _ _)) = consR _ (preR (_ ++ [_]) _)
  rw [preR_more]
theorem ptok_kind {k : Nat} {t : List UInt8} {a : Nat} {x : Tk} (h : ptok k t a = .inr x) : x.k ≠ 0 := by
  unfold ptok at h
  split at h
  · unfold wrdT at h
    repeat' split at h
    all_goals first | (injection h with h; subst h; simp) | cases h
  · unfold numT at h
    repeat' split at h
    all_goals first | (injection h with h; subst h; simp) | cases h
  · unfold sgnT at h
    split at h
    all_goals first | (injection h with h; subst h; simp) | cases h
  · cases h
/-- The end is the last token alone. -/
theorem lex_last (k : Nat) (t : List UInt8) (a p : Nat) (l : List UInt8) (us : List Tk) (e : Tk) (h : lexL k t a p l = .inr (us ++ [e])) : ∀ x, x ∈ us → x.k ≠ 0 := by
  induction l generalizing k t a p us with
  | nil =>
    unfold lexL at h
    rcases shut_inr h with ⟨_, h2⟩ | ⟨_, x, vs, hp, h2, h3⟩
    · unfold endR at h2
      injection h2 with h2
      have : us = [] := by
        have := congrArg List.length h2
        simp at this
        exact this
      subst this
      intro x hx
      cases hx
    · unfold endR at h2
      injection h2 with h2
      subst h2
      have : us = [x] := by
        have h4 : us ++ [e] = [x] ++ [⟨0, 0, [], p⟩] := h3
        exact List.append_inj_left' h4 rfl
      subst this
      intro y hy
      simp at hy
      rw [hy]
      exact ptok_kind hp
  | cons c r ih =>
    unfold lexL at h
    split at h
    · exact ih _ _ _ _ _ h
    · rcases shut_inr h with ⟨_, h2⟩ | ⟨_, x, vs, hp, h2, h3⟩
      · exact ih _ _ _ _ _ h2
      · cases us with
        | nil => intro y hy; cases hy
        | cons z us =>
          rw [List.cons_append] at h3
          injection h3 with h4 h5
          subst h4 h5
          intro y hy
          rcases List.mem_cons.1 hy with rfl | hy
          · exact ptok_kind hp
          · exact ih _ _ _ _ _ h2 y hy
/-- What a text that is read tells of its reader. -/
theorem parse_text {s : List UInt8} {x : Ex} {t : List Tk} (h : parseA s = .ok x t) : ∃ us E, s.length ≤ 2000 ∧ lexA s = .inr (us ++ [E]) ∧ E = ⟨0, 0, [], s.length⟩ ∧ us.length ≤ s.length ∧ (∀ y, y ∈ us → y.k ≠ 0) ∧ partF 30000 1 0 0 (us ++ [E]) = .ok x [E] := by
  unfold parseA at h
  cases hs : scanA s with
  | inl z => obtain ⟨e, p⟩ := z; rw [hs] at h; cases h
  | inr ts =>
    rw [hs] at h
    have h : readF 30000 ts = .ok x t := h
    have hk := scan_ok hs
    obtain ⟨us, h1, _⟩ := lexL_thenG 0 [] 0 0 s ts 41 [] (par_tks 41 (.inr rfl)) hk.2.1
    rw [Nat.zero_add] at h1
    subst h1
    have hl := lex_last _ _ _ _ _ _ _ hk.2.1
    refine ⟨us, _, hk.1, hk.2.1, rfl, by have := hk.2.2.2.1; simp at this; exact this, hl, ?_⟩
    unfold readF at h
    cases hp : partF 30000 1 0 0 (us ++ [⟨0, 0, [], s.length⟩]) using Rs.on with
    | out => rw [hp] at h; cases h
    | bad e a => rw [hp] at h; cases h
    | ok y t0 =>
      rw [hp] at h
      have hsf := lq_part 30000 1 0 0 _ _ (List.suffix_refl _) y t0 hp
      cases t0 with
      | nil => cases h
      | cons z r =>
        simp only [Rs.bind] at h
        by_cases hz : z.k = 0
        · rw [if_pos hz] at h
          obtain ⟨h1, h2⟩ := Rs.ok_inj h
          subst h1
          obtain ⟨pre, hpre⟩ := hsf
          cases r with
          | nil =>
            have h3 : pre ++ [z] = us ++ [⟨0, 0, [], s.length⟩] := hpre
            have h4 := List.append_inj_right' h3 rfl
            rw [h4]
          | cons z2 r =>
            exfalso
            have h5 : z ∈ us := by
              have h6 : pre ++ z :: (z2 :: r) = us ++ [⟨0, 0, [], s.length⟩] := hpre
              have h7 : (pre ++ z :: (z2 :: r)).dropLast = us := by rw [h6]; simp
              rw [← h7]
              have : pre ++ z :: (z2 :: r) = (pre ++ [z]) ++ (z2 :: r) := by simp
              rw [this, List.dropLast_append_cons]
              simp
            exact hl z h5 hz
        · rw [if_neg hz] at h
          cases h
/-- What begins with no sign of its own row is read by the next one. -/
theorem up_ok {n row o q : Nat} {x h : Tk} {l r : List Tk} {e : Ex} (h8 : row ≠ 8) (hx1 : x.t ≠ [110, 111, 116]) (hx2 : x.t ≠ [45]) (ho : opAt h.t row = none) (H : partF (n + 1) (row + 1) o q (x :: l) = .ok e (h :: r)) : partF (n + 2) row o q (x :: l) = .ok e (h :: r) := by
  show partF ((n + 1) + 1) row o q (x :: l) = _
  rw [partF]
  split
  · rename_i h3
    subst h3
    simp only [prefR, hx1, if_false]
    exact H
  · split
    · rename_i h7
      subst h7
      simp only [prefR, hx2, if_false]
      exact H
    · rw [H]
      simp only [Rs.bind, chainL, ho]
theorem up_bad {n row o q : Nat} {x : Tk} {l : List Tk} {e a : Nat} (h8 : row ≠ 8) (hx1 : x.t ≠ [110, 111, 116]) (hx2 : x.t ≠ [45]) (H : partF (n + 1) (row + 1) o q (x :: l) = .bad e a) : partF (n + 2) row o q (x :: l) = .bad e a := by
  show partF ((n + 1) + 1) row o q (x :: l) = _
  rw [partF]
  split
  · rename_i h3
    subst h3
    simp only [prefR, hx1, if_false]
    exact H
  · split
    · rename_i h7
      subst h7
      simp only [prefR, hx2, if_false]
      exact H
    · rw [H]
      rfl
theorem par_atom (n o q : Nat) (a : Nat) (l : List Tk) (ho : o ≠ 64) : partF (n + 1) 8 o q (⟨4, 0, [40], a⟩ :: l) = (partF n 1 (o + 1) q l).bind fun e t2 => (passT [41] t2).bind fun _ t4 => .ok e t4 := by
  have e1 : partF (n + 1) 8 o q (⟨4, 0, [40], a⟩ :: l) = parR (partF n) o q (⟨4, 0, [40], a⟩ :: l) := by
    rw [← par_args]
    simp [partF, atomR]
  rw [e1]
  simp [parR, enterT, ho, Rs.bind]
theorem wft_end (us : List Tk) (p : Nat) : WFT (us ++ [⟨0, 0, [], p⟩]) := ⟨⟨0, 0, [], p⟩, by simp, rfl, rfl⟩
/-- A text in parentheses is the same tree, or too deep. -/
theorem parse_par {s : List UInt8} {x : Ex} {t : List Tk} (h : parseA s = .ok x t) (hl : s.length + 2 ≤ 2000) :
    (∃ t', parseA (40 :: (s ++ [41])) = .ok (x.mv 1) t') ∨ ∃ a, parseA (40 :: (s ++ [41])) = .bad 121 a ∧ 0 < a := by
  obtain ⟨us, E, h0, h1, rfl, h2, h3, h4⟩ := parse_text h
  obtain ⟨vs, h5, h6⟩ := lex_par 0 s [] _ h1
  have hv : us = vs := List.append_inj_left' h5 rfl
  subst hv
  have hs : scanA (40 :: (s ++ [41])) = .inr (⟨4, 0, [40], 0⟩ :: (us.map (mvT 1) ++ [⟨4, 0, [41], 1 + s.length⟩, ⟨0, 0, [], 2 + s.length⟩])) := by
    rw [scan_short (by simp; omega)]
    show lexL 0 [] 0 0 _ = _
    rw [h6]
    have e1 : lexL 0 [] (0 + 2 + s.length) (0 + 2 + s.length) [] = .inr [⟨0, 0, [], 0 + 2 + s.length⟩] := rfl
    rw [e1, preR_inr]
    simp only [Nat.zero_add, List.cons_append, List.append_assoc, List.nil_append]
  have S : Stops 1 1 [⟨0, 0, [], s.length⟩] [⟨4, 0, [41], 1 + s.length⟩, ⟨0, 0, [], 2 + s.length⟩] := ⟨fun _ => by omega, ⟨_, _, rfl, .inl ⟨rfl, rfl⟩⟩, ⟨_, _, rfl, rfl, rfl⟩⟩
  have hp : parseA (40 :: (s ++ [41])) = readF 30000 (⟨4, 0, [40], 0⟩ :: (us.map (mvT 1) ++ [⟨4, 0, [41], 1 + s.length⟩, ⟨0, 0, [], 2 + s.length⟩])) := by unfold parseA; rw [hs]
  have hlen : (us ++ [(⟨0, 0, [], s.length⟩ : Tk)]).length ≤ 2001 := by simp; omega
  rw [part_same (n' := 29992) (by omega) (wft_end us s.length) (by omega) (by omega)] at h4
  obtain ⟨u, hu, h7⟩ := sim_part S 29992 1 0 0 us x _ h4 (by simp)
  have hu0 : u = [] := by
    have := congrArg List.length hu
    simp at this
    exact this
  subst hu0
  rw [hp]
  have hx1 : (⟨4, 0, [40], 0⟩ : Tk).t ≠ [110, 111, 116] := by decide
  have hx2 : (⟨4, 0, [40], 0⟩ : Tk).t ≠ [45] := by decide
  have A := par_atom 29992 0 0 0 (us.map (mvT 1) ++ [⟨4, 0, [41], 1 + s.length⟩, ⟨0, 0, [], 2 + s.length⟩]) (by omega)
  rcases h7 with h7 | ⟨_, a, h7, ha⟩
  · rw [h7] at A
    have A : partF 29993 8 0 0 (⟨4, 0, [40], 0⟩ :: (us.map (mvT 1) ++ [⟨4, 0, [41], 1 + s.length⟩, ⟨0, 0, [], 2 + s.length⟩])) = .ok (x.mv 1) [⟨0, 0, [], 2 + s.length⟩] := A
    have no : ∀ row, opAt (⟨0, 0, [], 2 + s.length⟩ : Tk).t row = none := fun row => by simp [opAt, opsL]
    have A := up_ok (row := 7) (by decide) hx1 hx2 (no _) A
    have A := up_ok (row := 6) (by decide) hx1 hx2 (no _) A
    have A := up_ok (row := 5) (by decide) hx1 hx2 (no _) A
    have A := up_ok (row := 4) (by decide) hx1 hx2 (no _) A
    have A := up_ok (row := 3) (by decide) hx1 hx2 (no _) A
    have A := up_ok (row := 2) (by decide) hx1 hx2 (no _) A
    have A := up_ok (row := 1) (by decide) hx1 hx2 (no _) A
    refine .inl ⟨[⟨0, 0, [], 2 + s.length⟩], ?_⟩
    unfold readF
    rw [A]
    rfl
  · rw [h7] at A
    have A : partF 29993 8 0 0 (⟨4, 0, [40], 0⟩ :: (us.map (mvT 1) ++ [⟨4, 0, [41], 1 + s.length⟩, ⟨0, 0, [], 2 + s.length⟩])) = .bad 121 a := A
    have A := up_bad (row := 7) (by decide) hx1 hx2 A
    have A := up_bad (row := 6) (by decide) hx1 hx2 A
    have A := up_bad (row := 5) (by decide) hx1 hx2 A
    have A := up_bad (row := 4) (by decide) hx1 hx2 A
    have A := up_bad (row := 3) (by decide) hx1 hx2 A
    have A := up_bad (row := 2) (by decide) hx1 hx2 A
    have A := up_bad (row := 1) (by decide) hx1 hx2 A
    refine .inr ⟨a, ?_, ha⟩
    unfold readF
    rw [A]
    rfl
end Go.Proofs.YtfpmaeflmboalaaGreatDoor
