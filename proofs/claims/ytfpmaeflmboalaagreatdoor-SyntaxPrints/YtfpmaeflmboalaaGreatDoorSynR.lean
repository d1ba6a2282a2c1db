/- The plain reader has strength enough; what is read is shorter. No program. -/
import Derived.Test.YtfpmaeflmboalaaGreatDoorMem
import Derived.Test.YtfpmaeflmboalaaGreatDoorLexK
namespace Go.Proofs.YtfpmaeflmboalaaGreatDoor
set_option linter.unusedVariables false

/-- Trees in a row: a tree (kind, number, name, place, its kids), and those behind it. -/
structure Nd (α : Type) where
  k : Int
  n : Int
  nm : List UInt8
  a : Int
  kids : α
  rest : α
structure Fs where
  v : Option (Nd Fs)
abbrev Fs.nil : Fs := ⟨none⟩
abbrev Fs.cons (k n : Int) (nm : List UInt8) (a : Int) (ks r : Fs) : Fs := ⟨some ⟨k, n, nm, a, ks, r⟩⟩
theorem Fs.on {P : Fs → Prop} (f : Fs) (nil : P .nil) (cons : ∀ k n nm a ks r, P (.cons k n nm a ks r)) : P f := by
  obtain ⟨v⟩ := f
  cases v with
  | none => exact nil
  | some z => obtain ⟨k, n, nm, a, ks, r⟩ := z; exact cons k n nm a ks r
/-- A tree. -/
structure Ex where
  k : Int
  n : Int
  nm : List UInt8
  a : Int
  kids : Fs
def Fs.len : Fs → Nat
  | ⟨none⟩ => 0
  | ⟨some ⟨_, _, _, _, _, r⟩⟩ => r.len + 1
def Fs.app : Fs → Fs → Fs
  | ⟨none⟩, y => y
  | ⟨some ⟨k, n, nm, a, ks, r⟩⟩, y => .cons k n nm a ks (r.app y)
def one (e : Ex) : Fs := .cons e.k e.n e.nm e.a e.kids .nil
def Fs.snoc (f : Fs) (e : Ex) : Fs := f.app (one e)
theorem Fs.len_app : ∀ (x y : Fs), (x.app y).len = x.len + y.len
  | ⟨none⟩, y => by simp [Fs.app, Fs.len]
  | ⟨some ⟨k, n, nm, a, ks, r⟩⟩, y => by simp only [Fs.app, Fs.len]; rw [Fs.len_app r y]; omega
theorem Fs.len_snoc (x : Fs) (e : Ex) : (x.snoc e).len = x.len + 1 := by unfold Fs.snoc; rw [Fs.len_app]; rfl
def noEx : Ex := ⟨0, 0, [], 0, .nil⟩
def Fs.head : Fs → Ex
  | ⟨none⟩ => noEx
  | ⟨some ⟨k, n, nm, a, ks, _⟩⟩ => ⟨k, n, nm, a, ks⟩
/-- What a reader comes to: it has no more strength; it gives up, with an error and its place; or what is read, and the tokens behind it. -/
structure Rs (α : Type) where
  v : Option (Sum (Nat × Nat) (α × List Tk))
abbrev Rs.out {α : Type} : Rs α := ⟨none⟩
abbrev Rs.bad {α : Type} (e a : Nat) : Rs α := ⟨some (.inl (e, a))⟩
abbrev Rs.ok {α : Type} (x : α) (t : List Tk) : Rs α := ⟨some (.inr (x, t))⟩
theorem Rs.on {α : Type} {P : Rs α → Prop} (R : Rs α) (out : P .out) (bad : ∀ e a, P (.bad e a)) (ok : ∀ x t, P (.ok x t)) : P R := by
  obtain ⟨v⟩ := R
  match v with
  | none => exact out
  | some (.inl (e, a)) => exact bad e a
  | some (.inr (x, t)) => exact ok x t
theorem Rs.ok_inj {α : Type} {x y : α} {t u : List Tk} (h : Rs.ok x t = Rs.ok y u) : x = y ∧ t = u := by simpa using h
theorem Rs.bad_inj {α : Type} {e e' a a' : Nat} (h : (Rs.bad e a : Rs α) = Rs.bad e' a') : e = e' ∧ a = a' := by simpa using h
def Rs.bind {α β : Type} : Rs α → (α → List Tk → Rs β) → Rs β
  | ⟨none⟩, _ => .out
  | ⟨some (.inl (e, a))⟩, _ => .bad e a
  | ⟨some (.inr (x, ts))⟩, f => f x ts
/-- A reader of a row: the row, openings, quantifiers, tokens. -/
abbrev Rdr := Nat → Nat → Nat → List Tk → Rs Ex
def passT (s : List UInt8) : List Tk → Rs Nat
  | [] => .out
  | x :: r => if x.t = s then .ok x.a r else .bad 120 x.a
def passK (k : Nat) : List Tk → Rs Tk
  | [] => .out
  | x :: r => if x.k = k then .ok x r else .bad 120 x.a
def enterT (s : List UInt8) (o : Nat) : List Tk → Rs Nat
  | [] => .out
  | x :: r => if x.t = s then (if o = 64 then .bad 121 x.a else .ok x.a r) else .bad 120 x.a
/-- The operators: text, kind, row, the rows that are asked for. -/
def opsL : List (List UInt8 × Nat × Nat × Nat × Nat) :=
  [([111, 114], 18, 1, 1, 2), ([97, 110, 100], 17, 2, 2, 3), ([61], 13, 4, 5, 5), ([33, 61], 14, 4, 5, 5), ([60], 15, 4, 5, 5), ([60, 61], 16, 4, 5, 5), ([43], 8, 5, 5, 6), ([45], 9, 5, 5, 6), ([42], 10, 6, 6, 7), ([47], 11, 6, 6, 7), ([37], 12, 6, 6, 7)]
def opAt (t : List UInt8) (row : Nat) : Option (List UInt8 × Nat × Nat × Nat × Nat) := opsL.find? fun x => x.1 == t && x.2.2.1 == row
/-- The words of calls, with the number of each and of its arguments. -/
def callsL : List (List UInt8 × Nat × Nat) :=
  [([99, 111, 110, 110, 101, 99, 116, 101, 100], 1, 2), ([98, 108, 111, 99, 107], 2, 2), ([98, 111, 116, 116, 108, 101, 110, 101, 99, 107], 3, 2), ([115, 105, 122, 101], 4, 1), ([116, 111, 116, 97, 108], 5, 1), ([108, 101, 97, 115, 116], 6, 1), ([109, 111, 115, 116], 7, 1), ([118, 97, 108, 117, 101], 8, 1), ([100, 101, 103, 114, 101, 101], 9, 1), ([114, 101, 112], 10, 1)]
def callAt (t : List UInt8) : Option (List UInt8 × Nat × Nat) := callsL.find? fun x => x.1 == t
/-- The words of quantifiers, with the number of each. -/
def quantsL : List (List UInt8 × Nat) :=
  [([97, 108, 108], 1), ([115, 111, 109, 101], 2), ([99, 111, 117, 110, 116], 3), ([115, 117, 109], 4), ([109, 105, 110], 5), ([109, 97, 120], 6)]
def quantAt (t : List UInt8) : Option (List UInt8 × Nat) := quantsL.find? fun x => x.1 == t
/-- A chain goes on. -/
def chainL (rec : Rdr) : Nat → Nat → Nat → Nat → Ex → List Tk → Rs Ex
  | 0, _, _, _, _, _ => .out
  | m + 1, row, o, q, left, ts =>
    match ts with
    | [] => .out
    | x :: r =>
      match opAt x.t row with
      | none => .ok left ts
      | some (_, k, _, l, rt) => (rec rt o q r).bind fun right t2 => if row < l then .ok ⟨(k : Nat), 0, [], x.a, (one left).snoc right⟩ t2 else chainL rec m row o q ⟨(k : Nat), 0, [], x.a, (one left).snoc right⟩ t2
def prefR (rec : Rdr) (s : List UInt8) (k : Int) (row o q : Nat) (ts : List Tk) : Rs Ex :=
  match ts with
  | [] => .out
  | x :: r => if x.t = s then (if o = 64 then .bad 121 x.a else (rec row (o + 1) q r).bind fun kid t2 => .ok ⟨k, 0, [], x.a, one kid⟩ t2) else rec (row + 1) o q ts
/-- More arguments. -/
def argsL (rec : Rdr) : Nat → Nat → Nat → Fs → List Tk → Rs Fs
  | 0, _, _, acc, ts => .ok acc ts
  | j + 1, o, q, acc, ts => (passT [44] ts).bind fun _ t1 => (rec 1 o q t1).bind fun e t2 => argsL rec j o q (acc.snoc e) t2
/-- Some parts in parentheses. -/
def argsR (rec : Rdr) (many o q : Nat) (ts : List Tk) : Rs Fs :=
  (enterT [40] o ts).bind fun _ t1 => (rec 1 (o + 1) q t1).bind fun e t2 => (argsL rec (many - 1) (o + 1) q (one e) t2).bind fun ks t3 => (passT [41] t3).bind fun _ t4 => .ok ks t4
def choiceR (rec : Rdr) (o q : Nat) (ts : List Tk) : Rs Ex :=
  (enterT [105, 102] o ts).bind fun a t1 => (rec 1 (o + 1) q t1).bind fun x t2 => (passT [116, 104, 101, 110] t2).bind fun _ t3 => (rec 1 (o + 1) q t3).bind fun y t4 => (passT [101, 108, 115, 101] t4).bind fun _ t5 => (rec 1 (o + 1) q t5).bind fun z t6 => .ok ⟨19, 0, [], a, ((one x).snoc y).snoc z⟩ t6
/-- More members. -/
def memL (rec : Rdr) : Nat → Nat → Nat → Fs → List Tk → Rs Fs
  | 0, _, _, _, _ => .out
  | m + 1, o, q, acc, ts =>
    match ts with
    | [] => .out
    | x :: r => if x.t = [44] then (rec 1 o q r).bind fun e t2 => memL rec m o q (acc.snoc e) t2 else .ok acc ts
def memR (rec : Rdr) (m o q : Nat) (ts : List Tk) : Rs Fs :=
  match ts with
  | [] => .out
  | x :: r => if x.t = [125] then .ok .nil ts else (rec 1 o q ts).bind fun e t1 => memL rec m o q (one e) t1
def setR (rec : Rdr) (m o q : Nat) (ts : List Tk) : Rs Ex :=
  match ts with
  | [] => .out
  | x :: r =>
    if x.k = 2 then .ok ⟨23, 0, x.t, x.a, .nil⟩ r
    else if x.t = [118, 101, 114, 116, 105, 99, 101, 115] then .ok ⟨22, 0, [], x.a, .nil⟩ r
    else if x.t = [97, 114, 111, 117, 110, 100] then (argsR rec 1 o q r).bind fun ks t => .ok ⟨24, 0, [], x.a, ks⟩ t
    else (enterT [123] o ts).bind fun a t1 => (memR rec m (o + 1) q t1).bind fun ks t2 => (passT [125] t2).bind fun _ t3 => .ok ⟨25, 0, [], a, ks⟩ t3
def quantR (rec : Rdr) (m : Nat) (s : List UInt8) (n o q : Nat) (ts : List Tk) : Rs Ex :=
  match ts with
  | [] => .out
  | x :: r =>
    if q = 4 then .bad 121 x.a
    else (enterT s o ts).bind fun a t1 => (passK 2 t1).bind fun y t2 => (passT [105, 110] t2).bind fun _ t3 => (setR rec m (o + 1) (q + 1) t3).bind fun e t4 => (passT [58] t4).bind fun _ t5 => (rec 1 (o + 1) (q + 1) t5).bind fun b t6 => .ok ⟨21, (n : Nat), y.t, a, (one e).snoc b⟩ t6
def atomR (rec : Rdr) (m o q : Nat) (ts : List Tk) : Rs Ex :=
  match ts with
  | [] => .out
  | x :: r =>
    if x.k = 1 then .ok ⟨1, x.n, [], x.a, .nil⟩ r
    else if x.k = 2 then .ok ⟨4, 0, x.t, x.a, .nil⟩ r
    else if x.t = [102, 97, 108, 115, 101] then .ok ⟨2, 0, [], x.a, .nil⟩ r
    else if x.t = [116, 114, 117, 101] then .ok ⟨2, 1, [], x.a, .nil⟩ r
    else if x.t = [64] then (passK 1 r).bind fun y t1 => .ok ⟨3, y.n, [], x.a, .nil⟩ t1
    else if x.t = [40] then (argsR rec 1 o q ts).bind fun ks t1 => .ok ks.head t1
    else if x.t = [105, 102] then choiceR rec o q ts
    else match callAt x.t with
      | some (_, n, many) => (argsR rec many o q r).bind fun ks t1 => .ok ⟨20, (n : Nat), [], x.a, ks⟩ t1
      | none =>
        match quantAt x.t with
        | some (_, n) => quantR rec m x.t n o q ts
        | none => .bad 120 x.a
/-- A row is read, with strength for so many calls. -/
def partF : Nat → Rdr
  | 0, _, _, _, _ => .out
  | n + 1, row, o, q, ts =>
    if row = 3 then prefR (partF n) [110, 111, 116] 7 3 o q ts
    else if row = 7 then prefR (partF n) [45] 6 7 o q ts
    else if row = 8 then atomR (partF n) n o q ts
    else (partF n (row + 1) o q ts).bind fun l t => chainL (partF n) n row o q l t
/-- All tokens are read. -/
def readF (n : Nat) (ts : List Tk) : Rs Ex :=
  (partF n 1 0 0 ts).bind fun e t =>
    match t with
    | [] => .out
    | x :: _ => if x.k = 0 then .ok e t else .bad 120 x.a
end Go.Proofs.YtfpmaeflmboalaaGreatDoor
namespace Go.Proofs.YtfpmaeflmboalaaGreatDoor
set_option linter.unusedVariables false

/-- Tokens whose last one is the end. -/
def WFT (ts : List Tk) : Prop := ∃ e, ts.getLast? = some e ∧ e.k = 0 ∧ e.t = []
theorem WFT.tail {x : Tk} {r : List Tk} (h : WFT (x :: r)) (hx : x.t ≠ [] ∨ x.k ≠ 0) : WFT r := by
  obtain ⟨e, h1, h2, h3⟩ := h
  cases r with
  | nil =>
    simp at h1
    subst h1
    rcases hx with hx | hx
    · exact absurd h3 hx
    · exact absurd h2 hx
  | cons y l => exact ⟨e, by rw [List.getLast?_cons_cons] at h1; exact h1, h2, h3⟩
theorem WFT.ne {ts : List Tk} (h : WFT ts) : ts ≠ [] := by
  obtain ⟨e, h1, _⟩ := h
  intro e2
  subst e2
  cases h1
/-- An answer that has its strength, and fewer tokens behind it than b. -/
def Fine {α : Type} (b : Nat) (r : Rs α) : Prop :=
  match r with
  | ⟨none⟩ => False
  | ⟨some (.inl (_, _))⟩ => True
  | ⟨some (.inr (_, t))⟩ => WFT t ∧ t.length < b
theorem Fine.bind {α β : Type} {b c : Nat} {r : Rs α} {f : α → List Tk → Rs β} (h : Fine b r) (hf : ∀ x t, WFT t → t.length < b → Fine c (f x t)) : Fine c (r.bind f) := by
  cases r using Rs.on with
  | out => exact h.elim
  | bad e a => exact trivial
  | ok x t => exact hf x t h.1 h.2
theorem Fine.up {α : Type} {b c : Nat} {r : Rs α} (h : Fine b r) (hc : b ≤ c) : Fine c r := by
  cases r using Rs.on with
  | out => exact h.elim
  | bad e a => exact trivial
  | ok x t => exact ⟨h.1, Nat.lt_of_lt_of_le h.2 hc⟩
theorem fine_pass {s : List UInt8} (hs : s ≠ []) {ts : List Tk} (h : WFT ts) : Fine ts.length (passT s ts) := by
  cases ts with
  | nil => exact absurd rfl h.ne
  | cons x r =>
    simp only [passT]
    by_cases hx : x.t = s
    · rw [if_pos hx]; exact ⟨h.tail (.inl (by rw [hx]; exact hs)), by simp⟩
    · rw [if_neg hx]; exact trivial
theorem fine_kind {k : Nat} (hk : k ≠ 0) {ts : List Tk} (h : WFT ts) : Fine ts.length (passK k ts) := by
  cases ts with
  | nil => exact absurd rfl h.ne
  | cons x r =>
    simp only [passK]
    by_cases hx : x.k = k
    · rw [if_pos hx]; exact ⟨h.tail (.inr (by rw [hx]; exact hk)), by simp⟩
    · rw [if_neg hx]; exact trivial
theorem fine_enter {s : List UInt8} (hs : s ≠ []) (o : Nat) {ts : List Tk} (h : WFT ts) : Fine ts.length (enterT s o ts) := by
  cases ts with
  | nil => exact absurd rfl h.ne
  | cons x r =>
    simp only [enterT]
    by_cases hx : x.t = s
    · rw [if_pos hx]
      by_cases ho : o = 64
      · rw [if_pos ho]; exact trivial
      · rw [if_neg ho]; exact ⟨h.tail (.inl (by rw [hx]; exact hs)), by simp⟩
    · rw [if_neg hx]; exact trivial
section
variable {rec : Rdr} {n : Nat}
theorem fine_rec1 (H : ∀ row o q ts, row ≤ 8 → WFT ts → 10 * ts.length + (9 - row) ≤ n → Fine ts.length (rec row o q ts)) {o q : Nat} {ts : List Tk} (h : WFT ts) (hn : 10 * ts.length + 8 ≤ n) : Fine ts.length (rec 1 o q ts) := H 1 o q ts (by omega) h (by omega)
theorem fine_argsL (H : ∀ row o q ts, row ≤ 8 → WFT ts → 10 * ts.length + (9 - row) ≤ n → Fine ts.length (rec row o q ts)) : ∀ (j : Nat) (o q : Nat) (acc : Fs) (ts : List Tk) (b : Nat), WFT ts → 10 * ts.length + 8 ≤ n → ts.length < b → Fine b (argsL rec j o q acc ts)
  | 0, o, q, acc, ts, b, h, hn, hb => ⟨h, hb⟩
  | j + 1, o, q, acc, ts, b, h, hn, hb => by
    unfold argsL
    refine (fine_pass (by simp) h).bind fun _ t1 h1 l1 => ?_
    refine (fine_rec1 H h1 (by omega)).bind fun e t2 h2 l2 => ?_
    exact fine_argsL H j o q _ t2 b h2 (by omega) (by omega)
theorem fine_args (H : ∀ row o q ts, row ≤ 8 → WFT ts → 10 * ts.length + (9 - row) ≤ n → Fine ts.length (rec row o q ts)) (many o q : Nat) {ts : List Tk} (h : WFT ts) (hn : 10 * ts.length ≤ n) : Fine ts.length (argsR rec many o q ts) := by
  unfold argsR
  refine (fine_enter (by simp) o h).bind fun _ t1 h1 l1 => ?_
  refine (fine_rec1 H h1 (by omega)).bind fun e t2 h2 l2 => ?_
  refine (fine_argsL H (many - 1) (o + 1) q _ t2 (t2.length + 1) h2 (by omega) (by omega)).bind fun ks t3 h3 l3 => ?_
  refine (fine_pass (by simp) h3).bind fun _ t4 h4 l4 => ?_
  exact ⟨h4, by omega⟩
theorem fine_choice (H : ∀ row o q ts, row ≤ 8 → WFT ts → 10 * ts.length + (9 - row) ≤ n → Fine ts.length (rec row o q ts)) (o q : Nat) {ts : List Tk} (h : WFT ts) (hn : 10 * ts.length ≤ n) : Fine ts.length (choiceR rec o q ts) := by
  unfold choiceR
  refine (fine_enter (by simp) o h).bind fun _ t1 h1 l1 => ?_
  refine (fine_rec1 H h1 (by omega)).bind fun e t2 h2 l2 => ?_
  refine (fine_pass (by simp) h2).bind fun _ t3 h3 l3 => ?_
  refine (fine_rec1 H h3 (by omega)).bind fun e t4 h4 l4 => ?_
  refine (fine_pass (by simp) h4).bind fun _ t5 h5 l5 => ?_
  refine (fine_rec1 H h5 (by omega)).bind fun e t6 h6 l6 => ?_
  exact ⟨h6, by omega⟩
theorem fine_memL (H : ∀ row o q ts, row ≤ 8 → WFT ts → 10 * ts.length + (9 - row) ≤ n → Fine ts.length (rec row o q ts)) : ∀ (m : Nat) (o q : Nat) (acc : Fs) (ts : List Tk) (b : Nat), WFT ts → 10 * ts.length + 8 ≤ n → ts.length < m → ts.length < b → Fine b (memL rec m o q acc ts)
  | 0, o, q, acc, ts, b, h, hn, hm, hb => by omega
  | m + 1, o, q, acc, ts, b, h, hn, hm, hb => by
    cases ts with
    | nil => exact absurd rfl h.ne
    | cons x r =>
      unfold memL
      simp only [List.length_cons] at hn hm hb
      by_cases hx : x.t = [44]
      · simp only [hx, if_true]
        have hr := h.tail (.inl (by rw [hx]; simp))
        refine (fine_rec1 H hr (by omega)).bind fun e t2 h2 l2 => ?_
        exact fine_memL H m o q _ t2 b h2 (by omega) (by omega) (by omega)
      · simp only [hx, if_false]
        exact ⟨h, by simpa using hb⟩
theorem fine_mem (H : ∀ row o q ts, row ≤ 8 → WFT ts → 10 * ts.length + (9 - row) ≤ n → Fine ts.length (rec row o q ts)) (m o q : Nat) {ts : List Tk} (h : WFT ts) (hn : 10 * ts.length + 8 ≤ n) (hm : ts.length < m) : Fine (ts.length + 1) (memR rec m o q ts) := by
  cases ts with
  | nil => exact absurd rfl h.ne
  | cons x r =>
    unfold memR
    by_cases hx : x.t = [125]
    · simp only [hx, if_true]
      exact ⟨h, by omega⟩
    · simp only [hx, if_false]
      refine (fine_rec1 H h hn).bind fun e t1 h1 l1 => ?_
      exact fine_memL H m o q _ t1 _ h1 (by omega) (by omega) (by omega)
theorem fine_set (H : ∀ row o q ts, row ≤ 8 → WFT ts → 10 * ts.length + (9 - row) ≤ n → Fine ts.length (rec row o q ts)) (m o q : Nat) {ts : List Tk} (h : WFT ts) (hn : 10 * ts.length ≤ n) (hm : ts.length < m) : Fine ts.length (setR rec m o q ts) := by
  cases ts with
  | nil => exact absurd rfl h.ne
  | cons x r =>
    unfold setR
    simp only [List.length_cons] at hn hm
    by_cases hk : x.k = 2
    · simp only [hk, if_true]
      exact ⟨h.tail (.inr (by rw [hk]; decide)), by simp⟩
    simp only [hk, if_false]
    by_cases hv : x.t = [118, 101, 114, 116, 105, 99, 101, 115]
    · simp only [hv, if_true]
      exact ⟨h.tail (.inl (by rw [hv]; simp)), by simp⟩
    simp only [hv, if_false]
    by_cases ha : x.t = [97, 114, 111, 117, 110, 100]
    · simp only [ha, if_true]
      have hr := h.tail (.inl (by rw [ha]; simp))
      refine (fine_args H 1 o q hr (by omega)).bind fun ks t h1 l1 => ?_
      exact ⟨h1, by simp; omega⟩
    simp only [ha, if_false]
    refine (fine_enter (by simp) o h).bind fun a t1 h1 l1 => ?_
    simp only [List.length_cons] at l1
    refine (fine_mem H m (o + 1) q h1 (by omega) (by omega)).bind fun ks t2 h2 l2 => ?_
    refine (fine_pass (by simp) h2).bind fun _ t3 h3 l3 => ?_
    exact ⟨h3, by simp; omega⟩
theorem fine_quant (H : ∀ row o q ts, row ≤ 8 → WFT ts → 10 * ts.length + (9 - row) ≤ n → Fine ts.length (rec row o q ts)) (m : Nat) {s : List UInt8} (hs : s ≠ []) (k o q : Nat) {ts : List Tk} (h : WFT ts) (hn : 10 * ts.length ≤ n) (hm : ts.length < m) : Fine ts.length (quantR rec m s k o q ts) := by
  cases ts with
  | nil => exact absurd rfl h.ne
  | cons x r =>
    unfold quantR
    by_cases h4 : q = 4
    · simp only [h4, if_true]; exact trivial
    simp only [h4, if_false]
    refine (fine_enter hs o h).bind fun _ t1 h1 l1 => ?_
    refine (fine_kind (by decide) h1).bind fun _ t2 h2 l2 => ?_
    refine (fine_pass (by simp) h2).bind fun _ t3 h3 l3 => ?_
    refine (fine_set H m (o + 1) (q + 1) h3 (by omega) (by omega)).bind fun e t4 h4 l4 => ?_
    refine (fine_pass (by simp) h4).bind fun _ t5 h5 l5 => ?_
    refine (fine_rec1 H h5 (by omega)).bind fun e t6 h6 l6 => ?_
    exact ⟨h6, by omega⟩
theorem fine_atom (H : ∀ row o q ts, row ≤ 8 → WFT ts → 10 * ts.length + (9 - row) ≤ n → Fine ts.length (rec row o q ts)) (m o q : Nat) {ts : List Tk} (h : WFT ts) (hn : 10 * ts.length ≤ n) (hm : ts.length < m) : Fine ts.length (atomR rec m o q ts) := by
  cases ts with
  | nil => exact absurd rfl h.ne
  | cons x r =>
    unfold atomR
    have hl : r.length < (x :: r).length := by simp
    simp only
    by_cases h1 : x.k = 1
    · simp only [h1, if_true]; exact ⟨h.tail (.inr (by rw [h1]; decide)), hl⟩
    simp only [h1, if_false]
    by_cases h2 : x.k = 2
    · simp only [h2, if_true]; exact ⟨h.tail (.inr (by rw [h2]; decide)), hl⟩
    simp only [h2, if_false]
    by_cases h3 : x.t = [102, 97, 108, 115, 101]
    · simp only [h3, if_true]; exact ⟨h.tail (.inl (by rw [h3]; simp)), hl⟩
    simp only [h3, if_false]
    by_cases h4 : x.t = [116, 114, 117, 101]
    · simp only [h4, if_true]; exact ⟨h.tail (.inl (by rw [h4]; simp)), hl⟩
    simp only [h4, if_false]
    by_cases h5 : x.t = [64]
    · simp only [h5, if_true]
      have hr := h.tail (.inl (by rw [h5]; simp))
      refine (fine_kind (by decide) hr).bind fun _ t2 k2 l2 => ?_
      exact ⟨k2, by omega⟩
    simp only [h5, if_false]
    by_cases h6 : x.t = [40]
    · simp only [h6, if_true]
      refine (fine_args H 1 o q h hn).bind fun ks t1 k1 l1 => ?_
      exact ⟨k1, l1⟩
    simp only [h6, if_false]
    by_cases h7 : x.t = [105, 102]
    · simp only [h7, if_true]; exact fine_choice H o q h hn
    simp only [h7, if_false]
    cases hc : callAt x.t with
    | some z =>
      obtain ⟨a, k, many⟩ := z
      have hx : x.t ≠ [] := fun e => by rw [e] at hc; cases hc
      have hr := h.tail (.inl hx)
      simp only [List.length_cons] at hn
      refine (fine_args H many o q hr (by omega)).bind fun ks t1 k1 l1 => ?_
      exact ⟨k1, by omega⟩
    | none =>
      cases hq : quantAt x.t with
      | some z =>
        obtain ⟨a, k⟩ := z
        have hx : x.t ≠ [] := fun e => by rw [e] at hq; cases hq
        exact fine_quant H m hx k o q h hn hm
      | none => exact trivial
theorem fine_pref (H : ∀ row o q ts, row ≤ 8 → WFT ts → 10 * ts.length + (9 - row) ≤ n → Fine ts.length (rec row o q ts)) {s : List UInt8} (hs : s ≠ []) (k : Int) (row o q : Nat) (hrow : row ≤ 7) {ts : List Tk} (h : WFT ts) (hn : 10 * ts.length + (8 - row) ≤ n) : Fine ts.length (prefR rec s k row o q ts) := by
  cases ts with
  | nil => exact absurd rfl h.ne
  | cons x r =>
    unfold prefR
    by_cases hx : x.t = s
    · simp only [hx, if_true]
      by_cases ho : o = 64
      · simp only [ho, if_true]; exact trivial
      · simp only [ho, if_false]
        have hr := h.tail (.inl (by rw [hx]; exact hs))
        simp only [List.length_cons] at hn
        refine (H row (o + 1) q r (by omega) hr (by omega)).bind fun e t2 h2 l2 => ?_
        exact ⟨h2, by simp; omega⟩
    · simp only [hx, if_false]
      exact H (row + 1) o q _ (by omega) h (by omega)
theorem fine_chainL (H : ∀ row o q ts, row ≤ 8 → WFT ts → 10 * ts.length + (9 - row) ≤ n → Fine ts.length (rec row o q ts)) : ∀ (m row o q : Nat) (left : Ex) (ts : List Tk) (b : Nat), WFT ts → 10 * ts.length + 8 ≤ n → ts.length < m → ts.length < b → Fine b (chainL rec m row o q left ts)
  | 0, row, o, q, left, ts, b, h, hn, hm, hb => by omega
  | m + 1, row, o, q, left, ts, b, h, hn, hm, hb => by
    cases ts with
    | nil => exact absurd rfl h.ne
    | cons x r =>
      unfold chainL
      simp only
      cases hz : opAt x.t row with
      | none => exact ⟨h, hb⟩
      | some z =>
        obtain ⟨zt, zk, zr, zl, zz⟩ := z
        have hx : x.t ≠ [] := fun e => by
          have h1 := List.mem_of_find?_eq_some hz
          have h2 := List.find?_some hz
          simp at h2
          have h3 := h2.1
          rw [e] at h3
          simp only [opsL, List.mem_cons, List.not_mem_nil, or_false, Prod.mk.injEq] at h1
          rcases h1 with ⟨h, _⟩ | ⟨h, _⟩ | ⟨h, _⟩ | ⟨h, _⟩ | ⟨h, _⟩ | ⟨h, _⟩ | ⟨h, _⟩ | ⟨h, _⟩ | ⟨h, _⟩ | ⟨h, _⟩ | ⟨h, _⟩ <;> (rw [h3] at h; cases h)
        have hz8 : zz ≤ 8 := by
          have h1 := List.mem_of_find?_eq_some hz
          simp only [opsL, List.mem_cons, List.not_mem_nil, or_false, Prod.mk.injEq] at h1
          rcases h1 with h | h | h | h | h | h | h | h | h | h | h <;> (have := h.2.2.2.2; omega)
        have hr := h.tail (.inl hx)
        simp only [List.length_cons] at hn hm hb
        refine (H zz o q r hz8 hr (by omega)).bind fun e t2 h2 l2 => ?_
        by_cases hlt : row < zl
        · simp only [hlt, if_true]; exact ⟨h2, by omega⟩
        · simp only [hlt, if_false]
          exact fine_chainL H m row o q _ t2 b h2 (by omega) (by omega) (by omega)
end
theorem fine_part : ∀ (n row o q : Nat) (ts : List Tk), row ≤ 8 → WFT ts → 10 * ts.length + (9 - row) ≤ n → Fine ts.length (partF n row o q ts)
  | 0, row, o, q, ts, hr, h, hn => by
    have := List.length_pos_iff.2 h.ne
    omega
  | n + 1, row, o, q, ts, hr, h, hn => by
    have H := fine_part n
    have hp := List.length_pos_iff.2 h.ne
    unfold partF
    by_cases h3 : row = 3
    · simp only [h3, if_true]; exact fine_pref H (by simp) 7 3 o q (by omega) h (by omega)
    simp only [h3, if_false]
    by_cases h7 : row = 7
    · simp only [h7, if_true]; exact fine_pref H (by simp) 6 7 o q (by omega) h (by omega)
    simp only [h7, if_false]
    by_cases h8 : row = 8
    · simp only [h8, if_true]; exact fine_atom H n o q h (by omega) (by omega)
    simp only [h8, if_false]
    refine (H (row + 1) o q ts (by omega) h (by omega)).bind fun l t h1 l1 => ?_
    exact fine_chainL H n row o q l t _ h1 (by omega) (by omega) l1
theorem read_fine {n : Nat} {ts : List Tk} (h : WFT ts) (hn : 10 * ts.length + 8 ≤ n) : readF n ts ≠ .out := by
  intro e
  have F : Fine ts.length (readF n ts) ∨ readF n ts ≠ .out := by
    refine .inr ?_
    have := fine_part n 1 0 0 ts (by omega) h (by omega)
    unfold readF
    cases hr : partF n 1 0 0 ts using Rs.on with
    | out => rw [hr] at this; exact this.elim
    | bad e a => intro h; cases h
    | ok x t =>
      rw [hr] at this
      cases t with
      | nil => exact absurd rfl this.1.ne
      | cons y l =>
        simp only [Rs.bind]
        by_cases hy : y.k = 0
        · simp [hy]
        · simp [hy]
  rcases F with F | F
  · rw [e] at F; exact F
  · exact F e
theorem lex_wft (k : Nat) (t : List UInt8) (a p : Nat) (l : List UInt8) (ts : List Tk) (h : lexL k t a p l = .inr ts) : WFT ts := by
  induction l generalizing k t a p ts with
  | nil =>
    unfold lexL at h
    rcases shut_inr h with ⟨_, h2⟩ | ⟨_, x, us, _, h2, rfl⟩
    · unfold endR at h2; injection h2 with h2; subst h2; exact ⟨_, rfl, rfl, rfl⟩
    · unfold endR at h2; injection h2 with h2; subst h2; exact ⟨_, rfl, rfl, rfl⟩
  | cons c r ih =>
    unfold lexL at h
    split at h
    · exact ih _ _ _ _ _ h
    · rcases shut_inr h with ⟨_, h2⟩ | ⟨_, x, us, _, h2, rfl⟩
      · exact ih _ _ _ _ _ h2
      · have := ih _ _ _ _ _ h2
        obtain ⟨e, h1, h3⟩ := this
        cases us with
        | nil => cases h1
        | cons y l => exact ⟨e, by rw [List.getLast?_cons_cons]; exact h1, h3⟩
/-- What Parse answers. -/
def parseA (l : List UInt8) : Rs Ex :=
  match scanA l with
  | .inl (e, p) => .bad e p
  | .inr ts => readF 30000 ts
theorem parse_fine (l : List UInt8) : parseA l ≠ .out := by
  unfold parseA
  cases h : scanA l with
  | inl x => obtain ⟨e, p⟩ := x; intro h; cases h
  | inr ts =>
    have hs := scan_ok h
    exact read_fine (lex_wft _ _ _ _ _ _ hs.2.1) (by omega)
end Go.Proofs.YtfpmaeflmboalaaGreatDoor
