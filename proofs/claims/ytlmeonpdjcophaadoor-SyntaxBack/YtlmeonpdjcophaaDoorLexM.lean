/- What the tokens of a text are: a plain machine that goes through its bytes one by one, with an open piece. No program. -/
import Derived.Lib.AtoiAll
namespace Go.Proofs.YtlmeonpdjcophaaDoor
set_option linter.unusedVariables false

/-- What a rune is. -/
def blk (r : Nat) : Bool := r == 32 || r == 9 || r == 10 || r == 13
def sml (r : Nat) : Bool := decide (97 ≤ r) && decide (r ≤ 122)
def ltr (r : Nat) : Bool := sml r || (decide (65 ≤ r) && decide (r ≤ 90))
def dig (r : Nat) : Bool := decide (48 ≤ r) && decide (r ≤ 57)
def sgn (r : Nat) : Bool := r == 40 || r == 41 || r == 123 || r == 125 || r == 44 || r == 58 || r == 64 || r == 43 || r == 45 || r == 42 || r == 47 || r == 37 || r == 61 || r == 33 || r == 60
/-- The kind of the piece that begins with a rune. -/
def cls (r : Nat) : Nat := if blk r then 0 else if ltr r then 1 else if dig r then 2 else if sgn r then 3 else 4
/-- Does a piece go on with a rune? -/
def tks (k : Nat) (t : List UInt8) (r : Nat) : Bool :=
  match k with
  | 0 => blk r
  | 1 => ltr r || dig r || r == 95
  | 2 => dig r
  | 3 => r == 61 && (t == [33] || t == [60])
  | _ => false
/-- The words of the language. -/
def wordsL : List (List UInt8) :=
  [[97, 108, 108], [97, 110, 100], [97, 114, 111, 117, 110, 100], [98, 108, 111, 99, 107], [98, 111, 116, 116, 108, 101, 110, 101, 99, 107], [99, 111, 110, 110, 101, 99, 116, 101, 100], [99, 111, 117, 110, 116], [100, 101, 103, 114, 101, 101], [101, 108, 115, 101],
   [102, 97, 108, 115, 101], [105, 102], [105, 110], [108, 101, 97, 115, 116], [109, 97, 120], [109, 105, 110], [109, 111, 115, 116], [110, 111, 116], [111, 114],
   [114, 101, 112], [115, 105, 122, 101], [115, 111, 109, 101], [115, 117, 109], [116, 104, 101, 110], [116, 111, 116, 97, 108], [116, 114, 117, 101], [118, 97, 108, 117, 101], [118, 101, 114, 116, 105, 99, 101, 115]]
def wordB (t : List UInt8) : Bool := wordsL.contains t
/-- A byte that may stand in a name. -/
def inn (c : UInt8) : Bool := sml c.toNat || dig c.toNat || c.toNat == 95
def nameB (t : List UInt8) : Bool :=
  match t with
  | [] => false
  | c :: r => decide (r.length < 12) && sml c.toNat && r.all inn && !wordB t
/-- A token: kind, number, text, place. -/
structure Tk where
  k : Nat
  n : Int
  t : List UInt8
  a : Nat
/-- What a text is: its tokens, or an error and its place. -/
abbrev Res := Sum (Nat × Nat) (List Tk)
def consR (x : Tk) : Res → Res
  | .inl e => .inl e
  | .inr l => .inr (x :: l)
/-- The number token of digits. -/
def numT (t : List UInt8) (a : Nat) : Sum Nat Tk :=
  match Lib.atoiAll t with
  | .ok v => if t.head? = some 48 ∧ t ≠ [48] then .inl 111 else .inr ⟨1, v, [], a⟩
  | _ => .inl 111
def wrdT (t : List UInt8) (a : Nat) : Sum Nat Tk := if wordB t then .inr ⟨3, 0, t, a⟩ else if nameB t then .inr ⟨2, 0, t, a⟩ else .inl 112
def sgnT (t : List UInt8) (a : Nat) : Sum Nat Tk := if t = [33] then .inl 110 else .inr ⟨4, 0, t, a⟩
/-- The token of a piece. -/
def ptok (k : Nat) (t : List UInt8) (a : Nat) : Sum Nat Tk :=
  match k with
  | 1 => wrdT t a
  | 2 => numT t a
  | 3 => sgnT t a
  | _ => .inl 110
/-- A piece is shut, and X behind it. -/
def shutP (k : Nat) (t : List UInt8) (a : Nat) (X : Res) : Res :=
  if k = 0 then X else match ptok k t a with
    | .inl e => .inl (e, a)
    | .inr x => consR x X
def endR (p : Nat) : Res := .inr [⟨0, 0, [], p⟩]
/-- The machine: the open piece is of kind k, has the text t and begins at a; p is the place. -/
def lexL (k : Nat) (t : List UInt8) (a p : Nat) : List UInt8 → Res
  | [] => shutP k t a (endR p)
  | c :: r => if tks k t c.toNat then lexL k (t ++ [c]) a (p + 1) r else shutP k t a (lexL (cls c.toNat) [c] p (p + 1) r)
def lexA (l : List UInt8) : Res := lexL 0 [] 0 0 l
/-- What Scan answers. -/
def scanA (l : List UInt8) : Res := if 2000 < l.length then .inl (113, 0) else lexA l

/-- Pieces, and X behind them. -/
structure Pc where
  k : Nat
  t : List UInt8
  a : Nat
def runP : List Pc → Res → Res
  | [], X => X
  | p :: r, X => shutP p.k p.t p.a (runP r X)
theorem runP_append (l m : List Pc) (X : Res) : runP (l ++ m) X = runP l (runP m X) := by
  induction l with
  | nil => rfl
  | cons p r ih => simp only [List.cons_append, runP, ih]
theorem lexL_four (t : List UInt8) (a p : Nat) (l : List UInt8) : lexL 4 t a p l = .inl (110, a) := by
  cases l with
  | nil => rfl
  | cons c r => rfl
theorem lexL_nil (k : Nat) (t : List UInt8) (a p : Nat) : lexL k t a p [] = shutP k t a (endR p) := rfl
theorem lexL_yes {k : Nat} {t : List UInt8} {a p : Nat} {c : UInt8} {r : List UInt8} (h : tks k t c.toNat = true) : lexL k t a p (c :: r) = lexL k (t ++ [c]) a (p + 1) r := by
  simp only [lexL, h, if_true]
theorem lexL_no {k : Nat} {t : List UInt8} {a p : Nat} {c : UInt8} {r : List UInt8} (h : tks k t c.toNat = false) : lexL k t a p (c :: r) = shutP k t a (lexL (cls c.toNat) [c] p (p + 1) r) := by
  simp [lexL, h]
theorem shut_four (t : List UInt8) (a : Nat) (X : Res) : shutP 4 t a X = .inl (110, a) := rfl
/-- Runes beyond ASCII. -/
theorem high_cls {r : Nat} (h : 128 ≤ r) : cls r = 4 := by
  have h1 : blk r = false := by simp [blk]; omega
  have h2 : ltr r = false := by simp [ltr, sml]; omega
  have h3 : dig r = false := by simp [dig]; omega
  have h4 : sgn r = false := by simp [sgn]; omega
  simp [cls, h1, h2, h3, h4]
theorem high_tks {r : Nat} (k : Nat) (t : List UInt8) (h : 128 ≤ r) : tks k t r = false := by
  have h1 : blk r = false := by simp [blk]; omega
  have h2 : ltr r = false := by simp [ltr, sml]; omega
  have h3 : dig r = false := by simp [dig]; omega
  have h4 : (r == 95) = false := by simp; omega
  have h5 : (r == 61) = false := by simp; omega
  unfold tks
  split
  · exact h1
  · simp [h2, h3, h4]
  · exact h3
  · simp [h5]
  · rfl
/-- The open piece's text and place do not matter, where it is blanks. -/
theorem lexL_blank (t t' : List UInt8) (a a' p : Nat) (l : List UInt8) : lexL 0 t a p l = lexL 0 t' a' p l := by
  induction l generalizing t t' p with
  | nil => rfl
  | cons c r ih =>
    by_cases h : blk c.toNat = true
    · rw [lexL_yes (by exact h), lexL_yes (by exact h)]
      exact ih _ _ _
    · have h' : blk c.toNat = false := by simpa using h
      rw [lexL_no (by exact h'), lexL_no (by exact h')]
      rfl
/-- A piece that does not go on is shut, and all begins anew. -/
theorem lexL_shut {k : Nat} {t : List UInt8} {a p : Nat} {c : UInt8} {r : List UInt8} (h : tks k t c.toNat = false) : lexL k t a p (c :: r) = shutP k t a (lexL 0 [] p p (c :: r)) := by
  rw [lexL_no h]
  congr 1
  by_cases hb : blk c.toNat = true
  · rw [lexL_yes (k := 0) (by exact hb)]
    have hc : cls c.toNat = 0 := by simp [cls, hb]
    rw [hc]
    exact lexL_blank _ _ _ _ _ _
  · have h' : blk c.toNat = false := by simpa using hb
    rw [lexL_no (k := 0) (by exact h')]
    rfl
/-- A piece that is taken to its end. -/
theorem lexL_end (k : Nat) (t : List UInt8) (a p : Nat) (u l : List UInt8) (hk : ∀ j (h : j < u.length), tks k (t ++ u.take j) (u[j]).toNat = true) (hl : ∀ c r, l = c :: r → tks k (t ++ u) c.toNat = false) :
    lexL k t a p (u ++ l) = shutP k (t ++ u) a (lexL 0 [] (p + u.length) (p + u.length) l) := by
  induction u generalizing t p with
  | nil =>
    simp only [List.nil_append, List.append_nil, List.length_nil, Nat.add_zero] at hl ⊢
    cases l with
    | nil => rw [lexL_nil, lexL_nil]; rfl
    | cons c r => exact lexL_shut (hl c r rfl)
  | cons c r ih =>
    have h0 := hk 0 (by simp)
    simp only [List.take_zero, List.append_nil, List.getElem_cons_zero] at h0
    rw [List.cons_append, lexL_yes h0, ih (t ++ [c]) (p + 1) (fun j h => ?_) (fun c' r' e => ?_)]
    · have e1 : p + 1 + r.length = p + (c :: r).length := by simp; omega
      rw [e1, List.append_assoc]
      rfl
    · have := hk (j + 1) (by simp; omega)
      simpa [List.append_assoc] using this
    · have := hl c' r' e
      simpa [List.append_assoc] using this
end Go.Proofs.YtlmeonpdjcophaaDoor
