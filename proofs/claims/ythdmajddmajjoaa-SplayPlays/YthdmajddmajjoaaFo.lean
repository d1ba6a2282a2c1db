/- A forest in plain terms: the items of its nodes, and the sequence that each stands in. No program but lifting. -/
import Derived.Test.YthdmajddmajjoaaLift
namespace Go.Proofs.Ythdmajddmajjoaa
open Go.ChangeShapes Go.WideShapes Go.ChangeAt Go.RowKit
set_option linter.unusedVariables false

/-- A forest: 'it k' is k's item, 'S k' the sequence of k. -/
def Fo (w : World) (o : Nat → Nat) (L p room n : Nat) (free : List Nat) (it : Nat → It) (S : Nat → List Nat) : Prop :=
  ∃ pt nd T, Fm w o L p room n free pt nd ∧ Tr (Live n free) n nd T S ∧ ∀ k, Live n free k → (nd k).it = it k
theorem Fo.step {I : Nat → Prop} {w w' : World} {o o' : Nat → Nat} {L p room n : Nat} {free : List Nat} {it : Nat → It} {S : Nat → List Nat} (h : Fo w o L p room n free it S) (s : Step I w o w' o') (hi : ∀ k, FL L k → ¬ I k) : Fo w' o' L p room n free it S := by
  obtain ⟨pt, nd, T, F, H, e⟩ := h
  exact ⟨pt, nd, T, F.step s hi, H, e⟩
theorem Fo.quiet {w w' : World} {o o' : Nat → Nat} {L p room n : Nat} {free : List Nat} {it : Nat → It} {S : Nat → List Nat} (h : Fo w o L p room n free it S) (s : Step (fun _ => False) w o w' o') : Fo w' o' L p room n free it S := h.step s (fun _ _ => id)
theorem Fo.wf {w : World} {o : Nat → Nat} {L p room n : Nat} {free : List Nat} {it : Nat → It} {S : Nat → List Nat} (h : Fo w o L p room n free it S) : WF room n free := by
  obtain ⟨pt, nd, T, F, H, e⟩ := h
  exact F.wf
theorem Fo.le {w : World} {o : Nat → Nat} {L p room n : Nat} {free : List Nat} {it : Nat → It} {S : Nat → List Nat} (h : Fo w o L p room n free it S) : n ≤ 1024 := by
  obtain ⟨pt, nd, T, F, H, e⟩ := h
  exact F.le
theorem Fo.self {w : World} {o : Nat → Nat} {L p room n : Nat} {free : List Nat} {it : Nat → It} {S : Nat → List Nat} (h : Fo w o L p room n free it S) {k : Nat} (hk : Live n free k) : k ∈ S k := by
  obtain ⟨pt, nd, T, F, H, e⟩ := h
  exact H.self k hk
theorem Fo.mem {w : World} {o : Nat → Nat} {L p room n : Nat} {free : List Nat} {it : Nat → It} {S : Nat → List Nat} (h : Fo w o L p room n free it S) {k j : Nat} (hk : Live n free k) (hj : j ∈ S k) : Live n free j ∧ S j = S k := by
  obtain ⟨pt, nd, T, F, H, e⟩ := h
  exact H.mem k hk j hj
theorem Fo.may {w : World} {o : Nat → Nat} {L p room n : Nat} {free : List Nat} {it : Nat → It} {S : Nat → List Nat} (h : Fo w o L p room n free it S) {k : Nat} (hk : Live n free k) : (it k).may := by
  obtain ⟨pt, nd, T, F, H, e⟩ := h
  rw [← e k hk]; exact H.may k hk

variable {live : Nat → Prop} {N : Nat} {nd nd' : Nat → Nd} {T T' S : Nat → List Nat}

theorem Tr.topOf (H : Tr live N nd T S) : ∀ (n h : Nat), N - (T h).length ≤ n → live h → ∃ r, live r ∧ (nd r).up = 0 ∧ S r = S h := by
  intro n
  induction n with
  | zero =>
    intro h hn hl
    by_cases e : (nd h).up = 0
    · exact ⟨h, hl, e, rfl⟩
    · have := H.up_lt hl e
      have := H.lenN (H.u h hl e).1
      omega
  | succ n ih =>
    intro h hn hl
    by_cases e : (nd h).up = 0
    · exact ⟨h, hl, e, rfl⟩
    · have h1 := H.up_lt hl e
      obtain ⟨p1, p2, _⟩ := H.u h hl e
      obtain ⟨r, q1, q2, q3⟩ := ih (nd h).up (by have := H.lenN p1; omega) p1
      exact ⟨r, q1, q2, q3.trans p2⟩
theorem Tr.nodupSeq (H : Tr live N nd T S) {h : Nat} (hl : live h) : (S h).Nodup := by
  obtain ⟨r, q1, q2, q3⟩ := H.topOf _ h (Nat.le_refl _) hl
  rw [← q3]; exact H.nodupS q1 q2
theorem Fo.nodup {w : World} {o : Nat → Nat} {L p room n : Nat} {free : List Nat} {it : Nat → It} {S : Nat → List Nat} (h : Fo w o L p room n free it S) {k : Nat} (hk : Live n free k) : (S k).Nodup := by
  obtain ⟨pt, nd, T, F, H, e⟩ := h
  exact H.nodupSeq hk
theorem Fo.len {w : World} {o : Nat → Nat} {L p room n : Nat} {free : List Nat} {it : Nat → It} {S : Nat → List Nat} (h : Fo w o L p room n free it S) {k : Nat} (hk : Live n free k) : (S k).length ≤ 1024 := by
  refine Nat.le_trans (len_le_of_nodup n (S k) (h.nodup hk) (fun j hj => ?_)) h.le
  have := (h.mem hk hj).1
  exact ⟨this.1, this.2.1⟩
theorem Tr.itemsEq {n : Nat} {free : List Nat} {it : Nat → It} (H : Tr (Live n free) N nd T S) (e : ∀ k, Live n free k → (nd k).it = it k) {h : Nat} (hl : Live n free h) : ((T h).map fun k => (nd k).it) = (T h).map it :=
  List.map_congr_left (fun k hk => e k (H.memT hl hk))
/-- Two ways to cut a list at the same place are one. -/
theorem cut_unique : ∀ {A B A' B' : List Nat} {a : Nat}, (A ++ a :: B).Nodup → A ++ a :: B = A' ++ a :: B' → A = A' ∧ B = B' := by
  intro A
  induction A with
  | nil =>
    intro B A' B' a hn e
    cases A' with
    | nil => simp at e; exact ⟨rfl, e⟩
    | cons x A' =>
      simp at e
      obtain ⟨rfl, e⟩ := e
      rw [e] at hn
      simp at hn
  | cons y A ih =>
    intro B A' B' a hn e
    cases A' with
    | nil =>
      simp at e
      obtain ⟨rfl, e⟩ := e
      simp at hn
    | cons x A' =>
      simp at e
      obtain ⟨rfl, e⟩ := e
      have hn' : (A ++ a :: B).Nodup := by simp only [List.cons_append, List.nodup_cons] at hn; exact hn.2
      obtain ⟨rfl, rfl⟩ := ih hn' e
      exact ⟨rfl, rfl⟩
theorem Lifted.it' {n : Nat} {free : List Nat} {h : Nat} {it : Nat → It} (a : Lifted (Live n free) N nd T S h nd' T') (e : ∀ k, Live n free k → (nd k).it = it k) : ∀ k, Live n free k → (nd' k).it = it k := fun k hk => (a.it k).trans (e k hk)
theorem Fo.mk {w : World} {o : Nat → Nat} {L p room n : Nat} {free : List Nat} {it : Nat → It} {S : Nat → List Nat} {pt : Nat → Nat} {nd : Nat → Nd} {T : Nat → List Nat} (F : Fm w o L p room n free pt nd) (H : Tr (Live n free) n nd T S) (e : ∀ k, Live n free k → (nd k).it = it k) : Fo w o L p room n free it S := ⟨pt, nd, T, F, H, e⟩
theorem Step.nf {L : Nat} {w w' : World} {o o' : Nat → Nat} (s : Step (NL L) w o w' o') : Step (FL L) w o w' o' := s.mono fun _ h => h.fl
theorem Step.ff {L : Nat} {w w' : World} {o o' : Nat → Nat} (s : Step (fun _ => False) w o w' o') : Step (FL L) w o w' o' := s.mono fun _ h => h.elim

/-- A step that writes no label of the forest but that of captured variables. -/
theorem Fm.scratch {w w' : World} {o o' : Nat → Nat} {L p room n : Nat} {free : List Nat} {pt : Nat → Nat} {nd : Nat → Nd} (h : Fm w o L p room n free pt nd) (s : Step (fun k => k = L + 5) w o w' o') : Fm w' o' L p room n free pt nd := by
  have hn := h.le
  obtain ⟨pa, cs, h0, h1, h2, h3⟩ := h
  refine ⟨pa, cs, h0.step s (by omega), h1.step s (fun k hk => by have := hk.1; have := hk.2; omega), h2, fun h hl => ?_⟩
  obtain ⟨g1, g2⟩ := h3 h hl
  exact ⟨g1, g2.step s (by have := hl.1; omega)⟩
theorem five_set (i : Nat) (w : World) (o : Nat → Nat) (b : Nat) (v0 v1 v2 v3 v4 : Value) (hb : o b = i) : Step (fun k => k = i) w o (((((w.setCell ⟨b, 0, none⟩ v0).setCell ⟨b, 1, none⟩ v1).setCell ⟨b, 2, none⟩ v2).setCell ⟨b, 3, none⟩ v3).setCell ⟨b, 4, none⟩ v4) o :=
  (((((Step.refl _ w o).setCell _ v0 hb).setCell _ v1 hb).setCell _ v2 hb).setCell _ v3 hb).setCell _ v4 hb
theorem Blk.cells5 {w : World} {o : Nat → Nat} {i b : Nat} {a0 a1 a2 a3 a4 : Value} {t : TypeId} (h : Blk w o i b (.cells #[a0, a1, a2, a3, a4] t (0, 0))) :
    w.cell? ⟨b, 0, none⟩ = some a0 ∧ w.cell? ⟨b, 1, none⟩ = some a1 ∧ w.cell? ⟨b, 2, none⟩ = some a2 ∧ w.cell? ⟨b, 3, none⟩ = some a3 ∧ w.cell? ⟨b, 4, none⟩ = some a4 ∧ ∀ j, w.frozen? ⟨b, j, none⟩ = false := by
  refine ⟨?_, ?_, ?_, ?_, ?_, fun j => frozen_of_row w b j _ t h.1⟩ <;> simp [cell_of_row w b _ _ t (0, 0) h.1]
theorem L5FL (L : Nat) : FL L (L + 5) := ⟨by omega, by omega⟩
theorem Step.five {L : Nat} {w w' : World} {o o' : Nat → Nat} (s : Step (fun k => k = L + 5) w o w' o') : Step (FL L) w o w' o' := s.mono fun _ h => by rw [h]; exact L5FL L

end Go.Proofs.Ythdmajddmajjoaa
