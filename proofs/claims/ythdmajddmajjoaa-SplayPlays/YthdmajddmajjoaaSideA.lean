/- One side of the law SplayPlays: with the lists that came out; All of both forests. -/
import Derived.Test.YthdmajddmajjoaaRefA2
import Derived.Test.YthdmajddmajjoaaSideX
import Derived.Test.YthdmajddmajjoaaAllF
namespace Go.Proofs.Ythdmajddmajjoaa
open Go.ChangeShapes Go.WideShapes Go.ChangeAt Go.RowKit
set_option linter.unusedVariables false

/-- The lists that came out of All, and what they were. -/
structure Lists (w : World) (o : Nat → Nat) (S : Nat) (als wls : List Value) (ls : List (List Nat)) : Prop where
  la : als.length = ls.length
  lw : wls.length = ls.length
  le : ls.length ≤ 30
  len : ∀ i, i < ls.length → (ls.getD i []).length ≤ 4096
  all : ∀ i, i < ls.length → Row w o (S + 20 + i) 3 1 (als.getD i (.slice none 0 0)) (ls.getD i []).length (intsL (ls.getD i []))
  was : ∀ i, i < ls.length → Row w o (S + 60 + i) 3 1 (wls.getD i (.slice none 0 0)) (ls.getD i []).length (intsL (ls.getD i []))
theorem Lists.step {I : Nat → Prop} {w w' : World} {o o' : Nat → Nat} {S : Nat} {als wls : List Value} {ls : List (List Nat)} (h : Lists w o S als wls ls) (s : Step I w o w' o') (hi : ∀ k, S + 20 ≤ k → k < S + 90 → ¬ I k) : Lists w' o' S als wls ls :=
  ⟨h.la, h.lw, h.le, h.len, fun i hl => (h.all i hl).step s (hi _ (by omega) (by have := h.le; omega)), fun i hl => (h.was i hl).step s (hi _ (by omega) (by have := h.le; omega))⟩
theorem Lists.nil (w : World) (o : Nat → Nat) (S : Nat) : Lists w o S [] [] [] := ⟨rfl, rfl, by simp, fun i h => by simp at h, fun i h => by simp at h, fun i h => by simp at h⟩

theorem infoSl : (Try.prog.info? 60).map (fun i => (i.zero, i.size, i.bytes)) = some (some (.slice none 0 0), 1, 24) := by kernel_rfl

theorem one_slice (a : Option Addr) (n c : Nat) : ∀ u ∈ [Value.slice a n c], u.oneCell' = true := by intro u hu; simp at hu; subst hu; rfl

theorem Lists.stepN {I : Nat → Prop} {w w' : World} {o o' : Nat → Nat} {S : Nat} {als wls : List Value} {ls : List (List Nat)} (h : Lists w o S als wls ls) (s : Step I w o w' o') (hi : ∀ i, i < ls.length → ¬ I (S + 20 + i) ∧ ¬ I (S + 60 + i)) : Lists w' o' S als wls ls :=
  ⟨h.la, h.lw, h.le, h.len, fun i hl => (h.all i hl).step s (hi i hl).1, fun i hl => (h.was i hl).step s (hi i hl).2⟩

theorem getD_snoc' {α : Type} (l : List α) (x d : α) (i : Nat) : (l ++ [x]).getD i d = if i < l.length then l.getD i d else if i = l.length then x else d := by
  rw [List.getD_eq_getElem?_getD, List.getElem?_append]
  by_cases h : i < l.length
  · simp [h]
  · by_cases e : i = l.length
    · simp [e]
    · have : 0 < i - l.length := by omega
      simp [h, e, List.getElem?_eq_none (l := [x]) (i := i - l.length) (by simp; omega)]

theorem Lists.push {w : World} {o : Nat → Nat} {S : Nat} {als wls : List Value} {ls : List (List Nat)} {va vw : Value} {l : List Nat} (h : Lists w o S als wls ls) (hN : ls.length < 30) (hl : l.length ≤ 4096)
    (ha : Row w o (S + 20 + ls.length) 3 1 va l.length (intsL l)) (hw : Row w o (S + 60 + ls.length) 3 1 vw l.length (intsL l)) : Lists w o S (als ++ [va]) (wls ++ [vw]) (ls ++ [l]) := by
  have h1 := h.la
  have h2 := h.lw
  have e : (ls ++ [l]).length = ls.length + 1 := by simp
  refine ⟨by simp [h1], by simp [h2], by omega, fun i hi => ?_, fun i hi => ?_, fun i hi => ?_⟩
  · rw [getD_snoc']
    by_cases hi' : i < ls.length
    · rw [if_pos hi']; exact h.len i hi'
    · rw [if_neg hi', if_pos (by omega)]; exact hl
  · rw [getD_snoc', getD_snoc', h1]
    by_cases hi' : i < ls.length
    · rw [if_pos hi', if_pos hi']; exact h.all i hi'
    · obtain rfl : i = ls.length := by omega
      rw [if_neg (by omega), if_pos rfl, if_neg (by omega), if_pos rfl]
      exact ha
  · rw [getD_snoc', getD_snoc', h2]
    by_cases hi' : i < ls.length
    · rw [if_pos hi', if_pos hi']; exact h.was i hi'
    · obtain rfl : i = ls.length := by omega
      rw [if_neg (by omega), if_pos rfl, if_neg (by omega), if_pos rfl]
      exact hw

def zL (l : List Int) : List Value := l.map fun z => .int .i64 z
theorem zL_get (l : List Int) (j : Nat) (h : j < l.length) : (zL l)[j]? = some (.int .i64 (l.getD j 0)) := by simp [zL, h]
theorem zL_set (l : List Int) (j : Nat) (x : Int) : (zL l).set j (.int .i64 x) = zL (l.set j x) := by simp [zL]
theorem zL_push (l : List Int) (x : Int) : zL l ++ [.int .i64 x] = zL (l ++ [x]) := by simp [zL]
theorem intsL_zL (l : List Nat) : intsL l = zL (l.map fun h : Nat => (h : Int)) := by simp [intsL, zL]

/-- The rows of the lists that came out, whatever they hold. -/
def Rws (w : World) (o : Nat → Nat) (S N : Nat) (als : List Value) (ct : Nat → List Int) : Prop :=
  ∀ j, j < N → Row w o (S + 20 + j) 3 1 (als.getD j (.slice none 0 0)) (ct j).length (zL (ct j))
theorem Rws.ofLists {w : World} {o : Nat → Nat} {S : Nat} {als wls : List Value} {ls : List (List Nat)} (h : Lists w o S als wls ls) : Rws w o S ls.length als (fun j => (ls.getD j []).map fun h : Nat => (h : Int)) := by
  intro j hj
  have := h.all j hj
  rw [intsL_zL] at this
  simpa using this
theorem Rws.step {I : Nat → Prop} {w w' : World} {o o' : Nat → Nat} {S N : Nat} {als : List Value} {ct : Nat → List Int} (h : Rws w o S N als ct) (s : Step I w o w' o') (hi : ∀ j, j < N → ¬ I (S + 20 + j)) : Rws w' o' S N als ct := fun j hj => (h j hj).step s (hi j hj)
/-- A store into row i. -/
theorem Rws.store {w : World} {o : Nat → Nat} {S N : Nat} {als : List Value} {ct : Nat → List Int} {i g cap : Nat} (h : Rws w o S N als ct) (hi : i < N) (hv : als.getD i (.slice none 0 0) = .slice (some ⟨g, 0, none⟩) (ct i).length cap) (t : Nat) (x : Int) :
    Rws (w.setCell ⟨g, t, none⟩ (.int .i64 x)) o S N als (fun j => if j = i then (ct i).set t x else ct j) ∧ Step (fun k => k = S + 20 + i) w o (w.setCell ⟨g, t, none⟩ (.int .i64 x)) o := by
  have hr := h i hi
  rw [hv] at hr
  have s1 := setStep (fun k => k = S + 20 + i) w o ⟨g, t, none⟩ (.int .i64 x) (hr.2 g rfl)
  refine ⟨fun j hj => ?_, s1⟩
  by_cases e : j = i
  · subst e
    have := hr.store t (.int .i64 x)
    rw [zL_set] at this
    simp only [if_true]
    rw [hv, List.length_set]
    exact this
  · simp only [if_neg e]
    exact (h j hj).step s1 (by omega)
/-- Another list in row i's place. -/
theorem Rws.put {w : World} {o : Nat → Nat} {S N : Nat} {als : List Value} {ct : Nat → List Int} {i : Nat} {v : Value} {l : List Int} (h : ∀ j, j < N → j ≠ i → Row w o (S + 20 + j) 3 1 (als.getD j (.slice none 0 0)) (ct j).length (zL (ct j))) (hl : als.length = N) (hi : i < N) (hr : Row w o (S + 20 + i) 3 1 v l.length (zL l)) :
    Rws w o S N (als.set i v) (fun j => if j = i then l else ct j) := by
  intro j hj
  rw [List.getD_eq_getElem?_getD, List.getElem?_set]
  by_cases e : j = i
  · subst e
    simp only [if_true]
    rw [if_pos (by omega)]
    exact hr
  · simp only [if_neg e, if_neg (fun x : i = j => e x.symm)]
    rw [← List.getD_eq_getElem?_getD]
    exact h j hj e

end Go.Proofs.Ythdmajddmajjoaa
namespace Go.Proofs.Ythdmajddmajjoaa
open Go.ChangeShapes Go.WideShapes Go.ChangeAt Go.RowKit
set_option linter.unusedVariables false

theorem allBoth {w0 : World} {o0' : Nat → Nat} {L0 p0 room M : Nat} {s : Sta} (F0 : FoS w0 o0' L0 p0 room s) (x : Int) : ∃ (xs : List Nat) (r : Int), xs.length ≤ 1024 ∧
    (∀ w o L p lb, ¬ FL L lb → FoS w o L p room s → Calls Try.prog 34 #[pv p, .int .i64 x] w fun e w' => ∃ va o', e = .returned (.tuple #[va, .int .i64 r]) ∧ Row w' o' lb 3 1 va xs.length (intsL xs) ∧ FoS w' o' L p room s ∧ Step (fun k => FL L k ∨ k = lb) w o w' o') ∧
    (∀ w o R q lb, ¬ XL R lb → RxS w o R q room M s → Calls Try.prog 35 #[pv q, .int .i64 x] w fun e w' => ∃ va o', e = .returned (.tuple #[va, .int .i64 r]) ∧ Row w' o' lb 3 1 va xs.length (intsL xs) ∧ RxS w' o' R q room M s ∧ Step (fun k => k = lb) w o w' o') := by
  by_cases hb : hasB s.n s.free x = true
  · obtain ⟨h, rfl, hl⟩ := Live.of hb
    refine ⟨s.S h, 0, Fo.len F0 hl, fun w o L p lb hlb F => ?_, fun w o R q lb hlb X => ?_⟩
    · exact allInF w o L p room s.n lb s.free s.it s.S h F hl hlb
    · have X' := X
      obtain ⟨pa, vi, vn, vl, its, inL, ls, LL, X⟩ := X
      refine (x_all_in lb h X hl).mono ?_
      rintro e w' ⟨va, o', rfl, R1, st⟩
      exact ⟨va, o', rfl, R1, X'.step st (fun k hk e => hlb (e ▸ hk)), st⟩
  · refine ⟨[], 31, by simp, fun w o L p lb hlb F => ?_, fun w o R q lb hlb X => ?_⟩
    · refine (allOutF w o L p room s.n s.free s.it s.S x F (by simpa using hb)).mono ?_
      rintro e w' ⟨rfl, rfl⟩
      exact ⟨_, o, rfl, Row.nil _ _ _ _ _, F, Step.refl _ _ _⟩
    · have X' := X
      obtain ⟨pa, vi, vn, vl, its, inL, ls, LL, X⟩ := X
      refine (x_all_out x X (by simpa using hb)).mono ?_
      rintro e w' ⟨rfl, rfl⟩
      exact ⟨_, o, rfl, Row.nil _ _ _ _ _, X', Step.refl _ _ _⟩
/-- A side, all of it. -/
def SA (w : World) (o : Nat → Nat) (D ps p q room M : Nat) (s : Sta) : Prop :=
  ∃ va vw als wls ls, Sd w o D ps p q room M s va vw ∧ Row w o (D + 1) 60 1 va als.length als ∧ Row w o (D + 2) 60 1 vw wls.length wls ∧ Lists w o D als wls ls
/-- All labels of a side. -/
def SAL (D : Nat) : Nat → Prop := fun k => D ≤ k ∧ k < D + 7000000010000
theorem SAL.of {D k : Nat} (h : SDL D k) : SAL D k := by
  unfold SAL
  unfold SDL at h
  rcases h with h | h
  · unfold FL at h; omega
  · unfold XL at h; omega
theorem SAL.mk {D k : Nat} (h1 : D ≤ k) (h2 : k < D + 100) : SAL D k := by unfold SAL; omega
theorem Sd.step {I : Nat → Prop} {w w' : World} {o o' : Nat → Nat} {D ps p q room M : Nat} {s : Sta} {va vw : Value} (h : Sd w o D ps p q room M s va vw) (st : Step I w o w' o') (h0 : ¬ I D) (hi : ∀ k, SDL D k → ¬ I k) : Sd w' o' D ps p q room M s va vw :=
  ⟨h.blk.step st h0, h.f.step st (fun k hk => hi k (.inl hk)), h.x.step st (fun k hk => hi k (.inr hk))⟩
theorem SA.step {I : Nat → Prop} {w w' : World} {o o' : Nat → Nat} {D ps p q room M : Nat} {s : Sta} (h : SA w o D ps p q room M s) (st : Step I w o w' o') (hi : ∀ k, SAL D k → ¬ I k) : SA w' o' D ps p q room M s := by
  obtain ⟨va, vw, als, wls, ls, h1, h2, h3, h4⟩ := h
  exact ⟨va, vw, als, wls, ls, h1.step st (hi _ (SAL.mk (by omega) (by omega))) (fun k hk => hi k (SAL.of hk)), h2.step st (hi _ (SAL.mk (by omega) (by omega))), h3.step st (hi _ (SAL.mk (by omega) (by omega))), h4.step st (fun k h1 h2 => hi k (SAL.mk (by omega) (by omega)))⟩
theorem SA.more {w : World} {o : Nat → Nat} {D ps p q room M : Nat} {s : Sta} (h : SA w o D ps p q room M s) (hM : M < 5500000000000) : SA w o D ps p q room (M + 1) s := by
  obtain ⟨va, vw, als, wls, ls, h1, h2, h3, h4⟩ := h
  exact ⟨va, vw, als, wls, ls, ⟨h1.blk, h1.f, h1.x.more hM⟩, h2, h3, h4⟩
end Go.Proofs.Ythdmajddmajjoaa
