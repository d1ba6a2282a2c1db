/- The list of edges while edges come and go. No program. -/
import Derived.Test.YtddjaldamfileaaBetw
namespace Go.Proofs.Ytddjaldamfileaa
open Go.ChangeShapes Go.WideShapes Go.ChangeAt Go.RowKit Go.Maps
set_option linter.unusedVariables false

/-- The list holds all edges, no ID twice. -/
structure TolD (ed : Nat → Option Ed) (l : List (Nat × Ed)) : Prop where
  tol : TolE ed l
  nodup : (l.map (·.1)).Nodup
theorem TolD.new : TolD (fun _ => none) [] := ⟨fun i x => by simp, by simp⟩
theorem TolD.link {ed : Nat → Option Ed} {l : List (Nat × Ed)} (h : TolD ed l) {i : Nat} (ni : ed i = none) (x : Ed) : TolD (upd ed i (some x)) (l ++ [(i, x)]) := by
  have out : ∀ y, (i, y) ∉ l := fun y m => by have := (h.tol i y).2 m; rw [ni] at this; simp at this
  refine ⟨fun j y => ?_, ?_⟩
  · by_cases e : j = i
    · subst e
      rw [upd_same]
      constructor
      · intro z; simp at z; rw [z]; simp
      · intro z
        rcases List.mem_append.1 z with z | z
        · exact absurd z (out y)
        · simp at z; rw [z]
    · rw [upd_other _ _ e, h.tol j y]
      constructor
      · exact fun z => List.mem_append_left _ z
      · intro z
        rcases List.mem_append.1 z with z | z
        · exact z
        · simp at z; exact absurd z.1 e
  · rw [List.map_append, List.nodup_append]
    refine ⟨h.nodup, by simp, fun a ha b hb e => ?_⟩
    simp at hb
    subst hb
    subst e
    obtain ⟨⟨j, y⟩, hm, rfl⟩ := List.mem_map.1 ha
    exact out y hm
theorem TolD.cut {ed : Nat → Option Ed} {l A B : List (Nat × Ed)} (h : TolD ed l) {i : Nat} {x : Ed} (e : l = A ++ (i, x) :: B) : TolD (upd ed i none) (A ++ B) := by
  have nd := h.nodup
  rw [e, List.map_append, List.map_cons, List.nodup_append] at nd
  obtain ⟨n1, n2, n3⟩ := nd
  have n4 := List.nodup_cons.1 n2
  have outA : ∀ y, (i, y) ∉ A := fun y m => n3 i (List.mem_map.2 ⟨_, m, rfl⟩) i (by simp) rfl
  have outB : ∀ y, (i, y) ∉ B := fun y m => n4.1 (List.mem_map.2 ⟨_, m, rfl⟩)
  refine ⟨fun j y => ?_, ?_⟩
  · by_cases q : j = i
    · subst q
      rw [upd_same]
      constructor
      · intro z; simp at z
      · intro z
        rcases List.mem_append.1 z with z | z
        · exact absurd z (outA y)
        · exact absurd z (outB y)
    · rw [upd_other _ _ q, h.tol j y, e]
      constructor
      · intro z
        rcases List.mem_append.1 z with z | z
        · exact List.mem_append_left _ z
        · rcases List.mem_cons.1 z with z | z
          · simp at z; exact absurd z.1 q
          · exact List.mem_append_right _ z
      · intro z
        rcases List.mem_append.1 z with z | z
        · exact List.mem_append_left _ z
        · exact List.mem_append_right _ (List.mem_cons_of_mem _ z)
  · rw [List.map_append, List.nodup_append]
    exact ⟨n1, n4.2, fun a ha b hb => n3 a ha b (List.mem_cons_of_mem _ hb)⟩
/-- An ID stands in the list just if there is that edge. -/
theorem TolD.id {ed : Nat → Option Ed} {l : List (Nat × Ed)} (h : TolD ed l) {q r : Int} (hr : IdIs l q r) :
    (∃ j, ∃ hj : j < l.length, r = (j : Nat) ∧ q = (l[j].1 : Nat) ∧ ed l[j].1 = some l[j].2) ∨ (r = -1 ∧ ∀ i : Nat, q = (i : Nat) → ed i = none) := by
  rcases hr with ⟨j, hj, e1, e2, _⟩ | ⟨e1, e2⟩
  · exact .inl ⟨j, hj, e1, e2.symm, (h.tol _ _).2 (List.getElem_mem hj)⟩
  · refine .inr ⟨e1, fun i hi => ?_⟩
    cases he : ed i with
    | none => rfl
    | some x =>
      obtain ⟨j, hj, e⟩ := List.getElem_of_mem ((h.tol i x).1 he)
      exact absurd (by rw [e, hi]) (e2 j hj)
/-- Whoever is of one tree: what joined tells. -/
theorem joined_b {n : Nat} {ed : Nat → Option Ed} {R : Nat → List Nat} {l : List (Nat × Ed)} (A0 : Alt n ed R) (ok : EdOk n ed) (hT : Rt (liveN n ed) R) (hl : TolD ed l) {a : Nat} (ha : a < n) {b : Nat → Bool} (hA : Least (pl l) a (fun v => b v = true)) {v : Nat} (hv : v < n) : b v = decide ((R (2 * a + 1)).head? = (R (2 * v + 1)).head?) := by
  have := joined_heads A0 ok hT hl.tol ha hA hv
  by_cases e : (R (2 * a + 1)).head? = (R (2 * v + 1)).head?
  · rw [decide_eq_true e]; exact this.2 e.symm
  · rw [decide_eq_false e]
    cases hb : b v with
    | false => rfl
    | true => exact absurd (this.1 hb).symm e

end Go.Proofs.Ytddjaldamfileaa
