/- Package lex: Scan answers as the machine does. -/
import Derived.Test.YtlmeonpdjcophaaDoorLexU
namespace Go.Proofs.YtlmeonpdjcophaaDoor
open Go.ChangeShapes Go.WideShapes Go.ChangeAt Go.RowKit
set_option linter.unusedVariables false

theorem infoToken : (Tryd.prog.info? 62).map (fun i => (i.zero, i.size, i.bytes)) = some (some (.agg #[.int .i64 0, .int .i64 0, .string ⟨#[]⟩, .int .i64 0]), 4, 40) := by kernel_rfl
/-- The cells of tokens. -/
def tcells (ts : List Tk) : List Value := ts.flatMap fun x => [.int .i64 (x.k : Nat), .int .i64 x.n, .string ⟨x.t.toArray⟩, .int .i64 (x.a : Nat)]
theorem tcells_more (ts : List Tk) (x : Tk) : tcells (ts ++ [x]) = tcells ts ++ [.int .i64 (x.k : Nat), .int .i64 x.n, .string ⟨x.t.toArray⟩, .int .i64 (x.a : Nat)] := by
  simp [tcells]
theorem pcells_at : ∀ (ps : List Pc) (i : Nat) (h : i < ps.length), (pcells ps)[i * 3]? = some (.int .i64 ((ps[i]).k : Nat)) ∧ (pcells ps)[i * 3 + 1]? = some (.string ⟨(ps[i]).t.toArray⟩) ∧ (pcells ps)[i * 3 + 2]? = some (.int .i64 ((ps[i]).a : Nat))
  | [], i, h => by cases h
  | p :: r, 0, h => ⟨rfl, rfl, rfl⟩
  | p :: r, i + 1, h => by
    have e : pcells (p :: r) = .int .i64 (p.k : Nat) :: .string ⟨p.t.toArray⟩ :: .int .i64 (p.a : Nat) :: pcells r := rfl
    have e1 : (i + 1) * 3 = i * 3 + 1 + 1 + 1 := by omega
    have ih := pcells_at r i (by simpa using h)
    rw [e, e1]
    exact ih
theorem tcells_at : ∀ (ts : List Tk) (i : Nat) (h : i < ts.length), (tcells ts)[i * 4]? = some (.int .i64 ((ts[i]).k : Nat)) ∧ (tcells ts)[i * 4 + 1]? = some (.int .i64 (ts[i]).n) ∧ (tcells ts)[i * 4 + 2]? = some (.string ⟨(ts[i]).t.toArray⟩) ∧ (tcells ts)[i * 4 + 3]? = some (.int .i64 ((ts[i]).a : Nat))
  | [], i, h => by cases h
  | p :: r, 0, h => ⟨rfl, rfl, rfl, rfl⟩
  | p :: r, i + 1, h => by
    have e : tcells (p :: r) = .int .i64 (p.k : Nat) :: .int .i64 p.n :: .string ⟨p.t.toArray⟩ :: .int .i64 (p.a : Nat) :: tcells r := rfl
    have e1 : (i + 1) * 4 = i * 4 + 1 + 1 + 1 + 1 := by omega
    have ih := tcells_at r i (by simpa using h)
    rw [e, e1]
    exact ih
/-- Tokens, and X behind them. -/
def preR : List Tk → Res → Res
  | [], X => X
  | x :: r, X => consR x (preR r X)
theorem preR_more (ts : List Tk) (x : Tk) (X : Res) : preR (ts ++ [x]) X = preR ts (consR x X) := by
  induction ts with
  | nil => rfl
  | cons y r ih => simp only [List.cons_append, preR, ih]
theorem preR_inl (ts : List Tk) (e : Nat × Nat) : preR ts (.inl e) = .inl e := by
  induction ts with
  | nil => rfl
  | cons y r ih => simp only [preR, ih]; rfl
theorem preR_inr (ts us : List Tk) : preR ts (.inr us) = .inr (ts ++ us) := by
  induction ts with
  | nil => rfl
  | cons y r ih => simp only [preR, ih]; rfl
theorem ptok_err {k : Nat} {t : List UInt8} {a e : Nat} (h : ptok k t a = .inl e) : e = 110 ∨ e = 111 ∨ e = 112 := by
  unfold ptok at h
  split at h
  · unfold wrdT at h
    repeat' split at h
    all_goals first | (injection h with h; omega) | cases h
  · unfold numT at h
    repeat' split at h
    all_goals first | (injection h with h; omega) | cases h
  · unfold sgnT at h
    split at h
    all_goals first | (injection h with h; omega) | cases h
  · injection h with h
    omega
theorem run_step (ps : List Pc) (i : Nat) (h : i < ps.length) (X : Res) : runP (ps.drop i) X = shutP (ps[i]).k (ps[i]).t (ps[i]).a (runP (ps.drop (i + 1)) X) := by
  rw [List.drop_eq_getElem_cons h]
  rfl
abbrev I4 : Nat → Prop := fun k => k = 1 ∨ k = 2 ∨ k = 3 ∨ k = 4
/-- What Scan answers: tokens that are new memory, or an error and its place. -/
def ScanOut (w w' : World) (v : Value) (er at0 : Int) (R : Res) : Prop :=
  (∃ e p, R = .inl (e, p) ∧ v = .slice none 0 0 ∧ er = (e : Nat) ∧ at0 = (p : Nat)) ∨ (∃ ts, R = .inr ts ∧ er = 0 ∧ at0 = 0 ∧ w'.ownsRow w.heap.size 62 4 v ts.length (tcells ts))
theorem Row.fresh {I : Nat → Prop} {w w' : World} {o' : Nat → Nat} {i : Nat} {e : TypeId} {size : Nat} {v : Value} {n : Nat} {xs : List Value} (r : Row w' o' (i + 1) e size v n xs) (s : Step I w (fun _ => 0) w' o') : w'.ownsRow w.heap.size e size v n xs := by
  refine ⟨r.1.1, ?_⟩
  rcases r.1.2 with h | ⟨g, cap, cur, rfl, hb, rest⟩
  · exact .inl h
  · refine .inr ⟨g, cap, cur, rfl, ?_, rest⟩
    by_cases hg : g < w.heap.size
    · have h1 := s.lab g hg
      have h2 := r.2 g rfl
      omega
    · omega
end Go.Proofs.YtlmeonpdjcophaaDoor
