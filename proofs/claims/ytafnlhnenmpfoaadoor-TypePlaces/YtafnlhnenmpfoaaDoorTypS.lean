/- The tables of rules. (mkrules.py writes this text.) -/
import Derived.Test.YtafnlhnenmpfoaaDoorLexT
import Derived.WalkLawsBesides
import Derived.Deep.RegionHeld3
namespace Go.Proofs.YtafnlhnenmpfoaaDoor
open Go.ChangeShapes Go.WideShapes Go.ChangeAt Go.RowKit
set_option linter.unusedVariables false
set_option linter.unusedSimpArgs false

/-- A box that holds the kinds of a fixed rule. -/
def Fxd (w : World) (b : Nat) (ks : List Int) : Prop :=
  b < w.heap.size ∧ ∃ g cap, g < w.heap.size ∧ w.cell? ⟨b, 0, none⟩ = some (.slice (some ⟨g, 0, none⟩) ks.length cap) ∧ ∀ (j : Nat) (k : Int), ks[j]? = some k → w.cell? ⟨g, j, none⟩ = some (.int .i64 k)
theorem Fxd.below {w w' : World} {b : Nat} {ks : List Int} (h : Fxd w b ks) (B : Below w.heap.size w w') : Fxd w' b ks := by
  obtain ⟨h1, g, cap, h2, h3, h4⟩ := h
  exact ⟨Nat.lt_of_lt_of_le h1 B.size, g, cap, Nat.lt_of_lt_of_le h2 B.size, (B.cell h1).trans h3, fun j k hk => (B.cell h2).trans (h4 j k hk)⟩
set_option maxRecDepth 100000 in
theorem fixed1_c {w : World} {b : Nat} {ks : List Int} {k : Int} (h : Fxd w b ks) (ev0 ev1 ev2 ev3 ev4 : Value) (da : Option Addr) (i dc : Nat) (hk : ks[i]? = some k) (hl : ks.length ≤ 3) :
    Calls Tryd.prog 51 #[.agg #[ev0, ev1, ev2, ev3, ev4], .slice da i dc, .pointer (some ⟨b, 0, none⟩)] w fun e w' => e = .returned (.int .i64 k) ∧ Below w.heap.size w w' := by
  obtain ⟨hb, g, cap, hg, c0, cs⟩ := h
  have hi : i < ks.length := by
    by_cases hi : i < ks.length
    · exact hi
    · rw [List.getElem?_eq_none (by omega)] at hk; cases hk
  have c1 := cs i k hk
  generalize ks.length = n at *
  clear cs hk
  have B1 : Below w.heap.size w (w.alloc (.cells #[ev0, ev1, ev2, ev3, ev4] 24)) := (Below.refl _ w).alloc (Nat.le_refl _) _
  have d0 := (B1.cell (p := ⟨b, 0, none⟩) hb).trans c0
  have d1 := (B1.cell (p := ⟨g, i, none⟩) hg).trans c1
  go_enter Tryd.func51, Tryd.ntmps51
  go_wp2_with fail
  exact bodyPost_ret (v := .int .i64 k) (by simp [results, Tryd.results51, go_sem]) rfl ⟨rfl, B1⟩
theorem fixed_c {w : World} {g cap : Nat} (ks : List Int) (hg : g < w.heap.size) (h : ∀ (j : Nat) (k : Int), ks[j]? = some k → w.cell? ⟨g, j, none⟩ = some (.int .i64 k)) :
    Calls Tryd.prog 26 #[.slice (some ⟨g, 0, none⟩) ks.length cap] w fun e w' => e = .returned (.func (.func 51) #[] #[.pointer (some ⟨w.heap.size, 0, none⟩)]) ∧ Fxd w' w.heap.size ks ∧ Below w.heap.size w w' := by
  have B1 : Below w.heap.size w (w.alloc (.cells #[.slice (some ⟨g, 0, none⟩) ks.length cap] 62)) := (Below.refl _ w).alloc (Nat.le_refl _) _
  have F1 : Fxd (w.alloc (.cells #[.slice (some ⟨g, 0, none⟩) ks.length cap] 62)) w.heap.size ks := by
    refine ⟨by simp, g, cap, by simp; omega, ?_, fun j k hk => (B1.cell (p := ⟨g, j, none⟩) hg).trans (h j k hk)⟩
    exact (cell_of_row _ w.heap.size 0 _ _ (0, 0) (heap_alloc_new w _)).trans rfl
  generalize hn : ks.length = n at *
  clear hn h
  go_enter Tryd.func26, Tryd.ntmps26
  go_wp2_with fail
  exact bodyPost_ret (v := .func (.func 51) #[] #[.pointer (some ⟨w.heap.size, 0, none⟩)]) (by simp [results, Tryd.results26, go_sem]) rfl ⟨rfl, F1, B1⟩
/-- Kinds in a slice. -/
def Kns (w : World) (v : Value) (d : List Int) : Prop :=
  ∃ (da : Option Addr) (cap : Nat), v = .slice da d.length cap ∧ ∀ (j : Nat) (k : Int), d[j]? = some k → ∃ g off, da = some ⟨g, off, none⟩ ∧ g < w.heap.size ∧ w.cell? ⟨g, off + j, none⟩ = some (.int .i64 k)
theorem Kns.below {w w' : World} {v : Value} {d : List Int} (h : Kns w v d) (B : Below w.heap.size w w') : Kns w' v d := by
  obtain ⟨da, cap, h1, h2⟩ := h
  refine ⟨da, cap, h1, fun j k hk => ?_⟩
  obtain ⟨g, off, h3, h4, h5⟩ := h2 j k hk
  exact ⟨g, off, h3, Nat.lt_of_lt_of_le h4 B.size, (B.cell (p := ⟨g, off + j, none⟩) h4).trans h5⟩
set_option maxRecDepth 100000 in
theorem alike_c {w : World} {v : Value} {d : List Int} (h : Kns w v d) (ev0 ev1 ev2 ev3 ev4 : Value) :
    Calls Tryd.prog 27 #[.agg #[ev0, ev1, ev2, ev3, ev4], v] w fun e w' => e = .returned (.int .i64 (match d with | [] => 0 | [a] => a | _ => 2)) ∧ Below w.heap.size w w' := by
  have B1 : Below w.heap.size w (w.alloc (.cells #[ev0, ev1, ev2, ev3, ev4] 24)) := (Below.refl _ w).alloc (Nat.le_refl _) _
  have h' := h.below B1
  obtain ⟨da, cap, rfl, -⟩ := h
  obtain ⟨da2, cap2, e2, h2⟩ := h'
  injection e2 with e3 e4 e5
  subst e3
  match d, h2 with
  | [], h2 =>
    clear h2
    simp only [List.length_nil]
    go_enter Tryd.func27, Tryd.ntmps27
    go_wp2_with fail
    exact bodyPost_ret (v := .int .i64 0) (by simp [results, Tryd.results27, go_sem]) rfl ⟨rfl, B1⟩
  | [a], h2 =>
    obtain ⟨g, off, rfl, h4, h5⟩ := h2 0 a rfl
    clear h2
    simp only [List.length_cons, List.length_nil, Nat.add_zero] at h5 ⊢
    go_enter Tryd.func27, Tryd.ntmps27
    go_wp2_with fail
    exact bodyPost_ret (v := .int .i64 a) (by simp [results, Tryd.results27, go_sem]) rfl ⟨rfl, B1⟩
  | a :: b :: r, h2 =>
    clear h2
    have hn0 : decide (((a :: b :: r).length : Int) = 0) = false := by simp; omega
    have hn1 : decide (((a :: b :: r).length : Int) = 1) = false := by simp; omega
    have hx0 : ((a :: b :: r).length : Int) ≠ 0 := by simp; omega
    have hx1 : ((a :: b :: r).length : Int) ≠ 1 := by simp; omega
    show Calls _ _ _ _ fun e w' => e = .returned (.int .i64 2) ∧ Below w.heap.size w w'
    generalize (a :: b :: r).length = n at *
    go_enter Tryd.func27, Tryd.ntmps27
    go_wp2_with fail
    exact bodyPost_ret (v := .int .i64 2) (by simp [results, Tryd.results27, go_sem]) rfl ⟨rfl, B1⟩
set_option maxRecDepth 100000 in
theorem choice_c {w : World} {v : Value} {d : List Int} (h : Kns w v d) (ev0 ev1 ev2 ev3 ev4 : Value) :
    Calls Tryd.prog 28 #[.agg #[ev0, ev1, ev2, ev3, ev4], v] w fun e w' => e = .returned (.int .i64 (match d with | [] => 2 | [_] => 0 | _ :: b :: _ => b)) ∧ Below w.heap.size w w' := by
  have B1 : Below w.heap.size w (w.alloc (.cells #[ev0, ev1, ev2, ev3, ev4] 24)) := (Below.refl _ w).alloc (Nat.le_refl _) _
  have h' := h.below B1
  obtain ⟨da, cap, rfl, -⟩ := h
  obtain ⟨da2, cap2, e2, h2⟩ := h'
  injection e2 with e3 e4 e5
  subst e3
  match d, h2 with
  | [], h2 =>
    clear h2
    simp only [List.length_nil]
    go_enter Tryd.func28, Tryd.ntmps28
    go_wp2_with fail
    exact bodyPost_ret (v := .int .i64 2) (by simp [results, Tryd.results28, go_sem]) rfl ⟨rfl, B1⟩
  | [a], h2 =>
    clear h2
    simp only [List.length_cons, List.length_nil]
    go_enter Tryd.func28, Tryd.ntmps28
    go_wp2_with fail
    exact bodyPost_ret (v := .int .i64 0) (by simp [results, Tryd.results28, go_sem]) rfl ⟨rfl, B1⟩
  | a :: b :: r, h2 =>
    obtain ⟨g, off, rfl, h4, h5⟩ := h2 1 b rfl
    clear h2
    have hn0 : decide (((a :: b :: r).length : Int) = 0) = false := by simp; omega
    have hn1 : decide (((a :: b :: r).length : Int) = 1) = false := by simp; omega
    have hx0 : ((a :: b :: r).length : Int) ≠ 0 := by simp; omega
    have hx1 : ((a :: b :: r).length : Int) ≠ 1 := by simp; omega
    have hx2 : 1 < (a :: b :: r).length := by simp
    show Calls _ _ _ _ fun e w' => e = .returned (.int .i64 b) ∧ Below w.heap.size w w'
    generalize (a :: b :: r).length = n at *
    go_enter Tryd.func28, Tryd.ntmps28
    go_wp2_with fail
    exact bodyPost_ret (v := .int .i64 b) (by simp [results, Tryd.results28, go_sem]) rfl ⟨rfl, B1⟩
set_option maxRecDepth 100000 in
theorem members_c {w : World} {v : Value} {d : List Int} (h : Kns w v d) (ev0 ev1 ev2 ev4 : Value) (ka : Option Addr) (len kc : Nat) :
    Calls Tryd.prog 32 #[.agg #[ev0, ev1, ev2, .slice ka len kc, ev4], v] w fun e w' => e = .returned (.int .i64 (if d.length < len then 3 else 4)) ∧ Below w.heap.size w w' := by
  have B1 : Below w.heap.size w (w.alloc (.cells #[ev0, ev1, ev2, .slice ka len kc, ev4] 24)) := (Below.refl _ w).alloc (Nat.le_refl _) _
  have hb : (w.alloc (.cells #[ev0, ev1, ev2, .slice ka len kc, ev4] 24)).heap[w.heap.size]? = some (.cells #[ev0, ev1, ev2, .slice ka len kc, ev4] 24 (0, 0)) := heap_alloc_new w _
  have c3 : (w.alloc (.cells #[ev0, ev1, ev2, .slice ka len kc, ev4] 24)).cell? ⟨w.heap.size, 3, none⟩ = some (.slice ka len kc) := (cell_of_row _ w.heap.size 3 _ _ (0, 0) hb).trans rfl
  obtain ⟨da, cap, rfl, -⟩ := h
  clear hb
  generalize d.length = n
  by_cases hl : n < len
  · rw [if_pos hl]
    have hd : decide ((n : Int) < (len : Int)) = true := by simp; omega
    have hd2 : (n : Int) < (len : Int) := by omega
    go_enter Tryd.func32, Tryd.ntmps32
    go_wp2_with fail
    exact bodyPost_ret (v := .int .i64 3) (by simp [results, Tryd.results32, go_sem]) rfl ⟨rfl, B1⟩
  · rw [if_neg hl]
    have hd : decide ((n : Int) < (len : Int)) = false := by simp; omega
    have hd2 : ¬ (n : Int) < (len : Int) := by omega
    go_enter Tryd.func32, Tryd.ntmps32
    go_wp2_with fail
    exact bodyPost_ret (v := .int .i64 4) (by simp [results, Tryd.results32, go_sem]) rfl ⟨rfl, B1⟩
end Go.Proofs.YtafnlhnenmpfoaaDoor
namespace Go.Proofs.YtafnlhnenmpfoaaDoor
open Go.ChangeShapes Go.WideShapes Go.ChangeAt Go.RowKit
set_option linter.unusedVariables false
set_option linter.unusedSimpArgs false

/-- A function value that is a fixed rule. -/
def FxV (w : World) (v : Value) (ks : List Int) : Prop := ∃ b, v = .func (.func 51) #[] #[.pointer (some ⟨b, 0, none⟩)] ∧ Fxd w b ks
theorem FxV.below {w w' : World} {v : Value} {ks : List Int} (h : FxV w v ks) (B : Below w.heap.size w w') : FxV w' v ks := by
  obtain ⟨b, h1, h2⟩ := h
  exact ⟨b, h1, h2.below B⟩
theorem fixed_v {w : World} {g cap n : Nat} (ks : List Int) (hn : ks.length = n) (hg : g < w.heap.size) (h : ∀ (j : Nat) (k : Int), ks[j]? = some k → w.cell? ⟨g, j, none⟩ = some (.int .i64 k)) :
    Calls Tryd.prog 26 #[.slice (some ⟨g, 0, none⟩) n cap] w fun e w' => ∃ v, e = .returned v ∧ FxV w' v ks ∧ Below w.heap.size w w' := by
  subst hn
  refine (fixed_c ks hg h).mono ?_
  rintro e w' ⟨rfl, h1, h2⟩
  exact ⟨_, rfl, ⟨_, rfl, h1⟩, h2⟩
theorem newL (w : World) (l : List Int) (T : TypeId) : ∀ (j : Nat) (k : Int), l[j]? = some k → (w.alloc (.cells (l.map (fun x => Value.int .i64 x)).toArray T)).cell? ⟨w.heap.size, j, none⟩ = some (.int .i64 k) := by
  intro j k hj
  have hb : (w.alloc (.cells (l.map (fun x => Value.int .i64 x)).toArray T)).heap[w.heap.size]? = some (.cells (l.map (fun x => Value.int .i64 x)).toArray T (0, 0)) := heap_alloc_new w _
  refine (cell_of_row _ w.heap.size j _ _ (0, 0) hb).trans ?_
  simp [hj]
/-- A call of 'fixed' on a slice that was just made. -/
theorem fixed_n (w : World) (ks : List Int) (T : TypeId) (n : Nat) (hn : ks.length = n) :
    Calls Tryd.prog 26 #[.slice (some ⟨w.heap.size, 0, none⟩) n n] (w.alloc (.cells (ks.map (fun x => Value.int .i64 x)).toArray T)) fun e w' => ∃ b, e = .returned (.func (.func 51) #[] #[.pointer (some ⟨b, 0, none⟩)]) ∧ Fxd w' b ks ∧ Below w.heap.size w w' := by
  refine (fixed_v (w := w.alloc (.cells (ks.map (fun x => Value.int .i64 x)).toArray T)) ks hn (by simp) (newL w ks T)).mono ?_
  rintro e w' ⟨v, rfl, ⟨b, rfl, h1⟩, h2⟩
  exact ⟨b, rfl, h1, ((Below.refl _ w).alloc (Nat.le_refl _) _).trans (h2.mono (by simp))⟩
/-- A table of fixed rules. -/
def FxT (w : World) (g : Nat) (T : List (List Int)) : Prop :=
  g < w.heap.size ∧ ∀ (j : Nat) (ks : List Int), T[j]? = some ks → ks ≠ [] → ∃ v, w.cell? ⟨g, j, none⟩ = some v ∧ FxV w v ks
theorem FxT.below {w w' : World} {g : Nat} {T : List (List Int)} (h : FxT w g T) (B : Below w.heap.size w w') : FxT w' g T := by
  refine ⟨Nat.lt_of_lt_of_le h.1 B.size, fun j ks h1 h2 => ?_⟩
  obtain ⟨v, h3, h4⟩ := h.2 j ks h1 h2
  exact ⟨v, (B.cell (p := ⟨g, j, none⟩) h.1).trans h3, h4.below B⟩
def quantT : List (List Int) := [[], [4, 2, 2], [4, 2, 2], [4, 2, 1], [4, 1, 1], [4, 1, 1], [4, 1, 1]]
set_option maxRecDepth 100000 in
set_option maxHeartbeats 4000000 in
theorem quantifiers_c (w : World) : Calls Tryd.prog 31 #[] w fun e w' => ∃ g, e = .returned (.slice (some ⟨g, 0, none⟩) 7 7) ∧ FxT w' g quantT ∧ Below w.heap.size w w' := by
  go_enter Tryd.func31, Tryd.ntmps31
  go_wp2_with fail
  refine (fixed_n w [4, 2, 2] _ _ rfl).mono ?_
  rintro e w1 ⟨b1, rfl, F1, S1⟩
  go_wp2_with fail
  refine (fixed_n w1 [4, 2, 2] _ _ rfl).mono ?_
  rintro e w2 ⟨b2, rfl, F2, S2⟩
  go_wp2_with fail
  refine (fixed_n w2 [4, 2, 1] _ _ rfl).mono ?_
  rintro e w3 ⟨b3, rfl, F3, S3⟩
  go_wp2_with fail
  refine (fixed_n w3 [4, 1, 1] _ _ rfl).mono ?_
  rintro e w4 ⟨b4, rfl, F4, S4⟩
  go_wp2_with fail
  refine (fixed_n w4 [4, 1, 1] _ _ rfl).mono ?_
  rintro e w5 ⟨b5, rfl, F5, S5⟩
  go_wp2_with fail
  refine (fixed_n w5 [4, 1, 1] _ _ rfl).mono ?_
  rintro e w6 ⟨b6, rfl, F6, S6⟩
  go_wp2
  have E6 : Below w6.heap.size w6 (w6.alloc (.cells #[.nilFunc, .func (.func 51) #[] #[.pointer (some ⟨b1, 0, none⟩)], .func (.func 51) #[] #[.pointer (some ⟨b2, 0, none⟩)], .func (.func 51) #[] #[.pointer (some ⟨b3, 0, none⟩)], .func (.func 51) #[] #[.pointer (some ⟨b4, 0, none⟩)], .func (.func 51) #[] #[.pointer (some ⟨b5, 0, none⟩)], .func (.func 51) #[] #[.pointer (some ⟨b6, 0, none⟩)]] 57)) := (Below.refl _ w6).alloc (Nat.le_refl _) _
  have E5 := S6.trans (E6.mono S6.size)
  have E4 := S5.trans (E5.mono S5.size)
  have E3 := S4.trans (E4.mono S4.size)
  have E2 := S3.trans (E3.mono S3.size)
  have E1 := S2.trans (E2.mono S2.size)
  have E0 := S1.trans (E1.mono S1.size)
  have hb : (w6.alloc (.cells #[.nilFunc, .func (.func 51) #[] #[.pointer (some ⟨b1, 0, none⟩)], .func (.func 51) #[] #[.pointer (some ⟨b2, 0, none⟩)], .func (.func 51) #[] #[.pointer (some ⟨b3, 0, none⟩)], .func (.func 51) #[] #[.pointer (some ⟨b4, 0, none⟩)], .func (.func 51) #[] #[.pointer (some ⟨b5, 0, none⟩)], .func (.func 51) #[] #[.pointer (some ⟨b6, 0, none⟩)]] 57)).heap[w6.heap.size]? = some (.cells #[.nilFunc, .func (.func 51) #[] #[.pointer (some ⟨b1, 0, none⟩)], .func (.func 51) #[] #[.pointer (some ⟨b2, 0, none⟩)], .func (.func 51) #[] #[.pointer (some ⟨b3, 0, none⟩)], .func (.func 51) #[] #[.pointer (some ⟨b4, 0, none⟩)], .func (.func 51) #[] #[.pointer (some ⟨b5, 0, none⟩)], .func (.func 51) #[] #[.pointer (some ⟨b6, 0, none⟩)]] 57 (0, 0)) := heap_alloc_new w6 _
  have P : FxT (w6.alloc (.cells #[.nilFunc, .func (.func 51) #[] #[.pointer (some ⟨b1, 0, none⟩)], .func (.func 51) #[] #[.pointer (some ⟨b2, 0, none⟩)], .func (.func 51) #[] #[.pointer (some ⟨b3, 0, none⟩)], .func (.func 51) #[] #[.pointer (some ⟨b4, 0, none⟩)], .func (.func 51) #[] #[.pointer (some ⟨b5, 0, none⟩)], .func (.func 51) #[] #[.pointer (some ⟨b6, 0, none⟩)]] 57)) w6.heap.size quantT := by
   refine ⟨by simp, ?_⟩
   intro j ks h1 h2
   match j, h1 with
   | 0, h1 => injection h1 with h1; exact absurd h1.symm h2
   | 1, h1 => injection h1 with h1; subst h1; exact ⟨_, (cell_of_row _ w6.heap.size 1 _ _ (0, 0) hb).trans rfl, b1, rfl, F1.below E1⟩
   | 2, h1 => injection h1 with h1; subst h1; exact ⟨_, (cell_of_row _ w6.heap.size 2 _ _ (0, 0) hb).trans rfl, b2, rfl, F2.below E2⟩
   | 3, h1 => injection h1 with h1; subst h1; exact ⟨_, (cell_of_row _ w6.heap.size 3 _ _ (0, 0) hb).trans rfl, b3, rfl, F3.below E3⟩
   | 4, h1 => injection h1 with h1; subst h1; exact ⟨_, (cell_of_row _ w6.heap.size 4 _ _ (0, 0) hb).trans rfl, b4, rfl, F4.below E4⟩
   | 5, h1 => injection h1 with h1; subst h1; exact ⟨_, (cell_of_row _ w6.heap.size 5 _ _ (0, 0) hb).trans rfl, b5, rfl, F5.below E5⟩
   | 6, h1 => injection h1 with h1; subst h1; exact ⟨_, (cell_of_row _ w6.heap.size 6 _ _ (0, 0) hb).trans rfl, b6, rfl, F6.below E6⟩
   | j + 7, h1 => simp [quantT] at h1
  exact bodyPost_ret (v := .slice (some ⟨w6.heap.size, 0, none⟩) 7 7) (by simp [results, Tryd.results31, go_sem]) rfl ⟨w6.heap.size, rfl, P, E0⟩
def callT : List (List Int) := [[], [3, 3, 2], [3, 3, 2], [3, 3, 1], [3, 1], [3, 1], [3, 1], [3, 1], [3, 1], [3, 1], [3, 3]]
set_option maxRecDepth 100000 in
set_option maxHeartbeats 4000000 in
theorem calls_c (w : World) : Calls Tryd.prog 30 #[] w fun e w' => ∃ g, e = .returned (.slice (some ⟨g, 0, none⟩) 11 11) ∧ FxT w' g callT ∧ Below w.heap.size w w' := by
  go_enter Tryd.func30, Tryd.ntmps30
  go_wp2_with fail
  refine (fixed_n w [3, 3, 2] _ _ rfl).mono ?_
  rintro e w1 ⟨b1, rfl, F1, S1⟩
  go_wp2_with fail
  refine (fixed_n w1 [3, 3, 2] _ _ rfl).mono ?_
  rintro e w2 ⟨b2, rfl, F2, S2⟩
  go_wp2_with fail
  refine (fixed_n w2 [3, 3, 1] _ _ rfl).mono ?_
  rintro e w3 ⟨b3, rfl, F3, S3⟩
  go_wp2_with fail
  refine (fixed_n w3 [3, 1] _ _ rfl).mono ?_
  rintro e w4 ⟨b4, rfl, F4, S4⟩
  go_wp2_with fail
  refine (fixed_n w4 [3, 1] _ _ rfl).mono ?_
  rintro e w5 ⟨b5, rfl, F5, S5⟩
  go_wp2_with fail
  refine (fixed_n w5 [3, 1] _ _ rfl).mono ?_
  rintro e w6 ⟨b6, rfl, F6, S6⟩
  go_wp2_with fail
  refine (fixed_n w6 [3, 1] _ _ rfl).mono ?_
  rintro e w7 ⟨b7, rfl, F7, S7⟩
  go_wp2_with fail
  refine (fixed_n w7 [3, 1] _ _ rfl).mono ?_
  rintro e w8 ⟨b8, rfl, F8, S8⟩
  go_wp2_with fail
  refine (fixed_n w8 [3, 1] _ _ rfl).mono ?_
  rintro e w9 ⟨b9, rfl, F9, S9⟩
  go_wp2_with fail
  refine (fixed_n w9 [3, 3] _ _ rfl).mono ?_
  rintro e w10 ⟨b10, rfl, F10, S10⟩
  go_wp2
  have E10 : Below w10.heap.size w10 (w10.alloc (.cells #[.nilFunc, .func (.func 51) #[] #[.pointer (some ⟨b1, 0, none⟩)], .func (.func 51) #[] #[.pointer (some ⟨b2, 0, none⟩)], .func (.func 51) #[] #[.pointer (some ⟨b3, 0, none⟩)], .func (.func 51) #[] #[.pointer (some ⟨b4, 0, none⟩)], .func (.func 51) #[] #[.pointer (some ⟨b5, 0, none⟩)], .func (.func 51) #[] #[.pointer (some ⟨b6, 0, none⟩)], .func (.func 51) #[] #[.pointer (some ⟨b7, 0, none⟩)], .func (.func 51) #[] #[.pointer (some ⟨b8, 0, none⟩)], .func (.func 51) #[] #[.pointer (some ⟨b9, 0, none⟩)], .func (.func 51) #[] #[.pointer (some ⟨b10, 0, none⟩)]] 57)) := (Below.refl _ w10).alloc (Nat.le_refl _) _
  have E9 := S10.trans (E10.mono S10.size)
  have E8 := S9.trans (E9.mono S9.size)
  have E7 := S8.trans (E8.mono S8.size)
  have E6 := S7.trans (E7.mono S7.size)
  have E5 := S6.trans (E6.mono S6.size)
  have E4 := S5.trans (E5.mono S5.size)
  have E3 := S4.trans (E4.mono S4.size)
  have E2 := S3.trans (E3.mono S3.size)
  have E1 := S2.trans (E2.mono S2.size)
  have E0 := S1.trans (E1.mono S1.size)
  have hb : (w10.alloc (.cells #[.nilFunc, .func (.func 51) #[] #[.pointer (some ⟨b1, 0, none⟩)], .func (.func 51) #[] #[.pointer (some ⟨b2, 0, none⟩)], .func (.func 51) #[] #[.pointer (some ⟨b3, 0, none⟩)], .func (.func 51) #[] #[.pointer (some ⟨b4, 0, none⟩)], .func (.func 51) #[] #[.pointer (some ⟨b5, 0, none⟩)], .func (.func 51) #[] #[.pointer (some ⟨b6, 0, none⟩)], .func (.func 51) #[] #[.pointer (some ⟨b7, 0, none⟩)], .func (.func 51) #[] #[.pointer (some ⟨b8, 0, none⟩)], .func (.func 51) #[] #[.pointer (some ⟨b9, 0, none⟩)], .func (.func 51) #[] #[.pointer (some ⟨b10, 0, none⟩)]] 57)).heap[w10.heap.size]? = some (.cells #[.nilFunc, .func (.func 51) #[] #[.pointer (some ⟨b1, 0, none⟩)], .func (.func 51) #[] #[.pointer (some ⟨b2, 0, none⟩)], .func (.func 51) #[] #[.pointer (some ⟨b3, 0, none⟩)], .func (.func 51) #[] #[.pointer (some ⟨b4, 0, none⟩)], .func (.func 51) #[] #[.pointer (some ⟨b5, 0, none⟩)], .func (.func 51) #[] #[.pointer (some ⟨b6, 0, none⟩)], .func (.func 51) #[] #[.pointer (some ⟨b7, 0, none⟩)], .func (.func 51) #[] #[.pointer (some ⟨b8, 0, none⟩)], .func (.func 51) #[] #[.pointer (some ⟨b9, 0, none⟩)], .func (.func 51) #[] #[.pointer (some ⟨b10, 0, none⟩)]] 57 (0, 0)) := heap_alloc_new w10 _
  have P : FxT (w10.alloc (.cells #[.nilFunc, .func (.func 51) #[] #[.pointer (some ⟨b1, 0, none⟩)], .func (.func 51) #[] #[.pointer (some ⟨b2, 0, none⟩)], .func (.func 51) #[] #[.pointer (some ⟨b3, 0, none⟩)], .func (.func 51) #[] #[.pointer (some ⟨b4, 0, none⟩)], .func (.func 51) #[] #[.pointer (some ⟨b5, 0, none⟩)], .func (.func 51) #[] #[.pointer (some ⟨b6, 0, none⟩)], .func (.func 51) #[] #[.pointer (some ⟨b7, 0, none⟩)], .func (.func 51) #[] #[.pointer (some ⟨b8, 0, none⟩)], .func (.func 51) #[] #[.pointer (some ⟨b9, 0, none⟩)], .func (.func 51) #[] #[.pointer (some ⟨b10, 0, none⟩)]] 57)) w10.heap.size callT := by
   refine ⟨by simp, ?_⟩
   intro j ks h1 h2
   match j, h1 with
   | 0, h1 => injection h1 with h1; exact absurd h1.symm h2
   | 1, h1 => injection h1 with h1; subst h1; exact ⟨_, (cell_of_row _ w10.heap.size 1 _ _ (0, 0) hb).trans rfl, b1, rfl, F1.below E1⟩
   | 2, h1 => injection h1 with h1; subst h1; exact ⟨_, (cell_of_row _ w10.heap.size 2 _ _ (0, 0) hb).trans rfl, b2, rfl, F2.below E2⟩
   | 3, h1 => injection h1 with h1; subst h1; exact ⟨_, (cell_of_row _ w10.heap.size 3 _ _ (0, 0) hb).trans rfl, b3, rfl, F3.below E3⟩
   | 4, h1 => injection h1 with h1; subst h1; exact ⟨_, (cell_of_row _ w10.heap.size 4 _ _ (0, 0) hb).trans rfl, b4, rfl, F4.below E4⟩
   | 5, h1 => injection h1 with h1; subst h1; exact ⟨_, (cell_of_row _ w10.heap.size 5 _ _ (0, 0) hb).trans rfl, b5, rfl, F5.below E5⟩
   | 6, h1 => injection h1 with h1; subst h1; exact ⟨_, (cell_of_row _ w10.heap.size 6 _ _ (0, 0) hb).trans rfl, b6, rfl, F6.below E6⟩
   | 7, h1 => injection h1 with h1; subst h1; exact ⟨_, (cell_of_row _ w10.heap.size 7 _ _ (0, 0) hb).trans rfl, b7, rfl, F7.below E7⟩
   | 8, h1 => injection h1 with h1; subst h1; exact ⟨_, (cell_of_row _ w10.heap.size 8 _ _ (0, 0) hb).trans rfl, b8, rfl, F8.below E8⟩
   | 9, h1 => injection h1 with h1; subst h1; exact ⟨_, (cell_of_row _ w10.heap.size 9 _ _ (0, 0) hb).trans rfl, b9, rfl, F9.below E9⟩
   | 10, h1 => injection h1 with h1; subst h1; exact ⟨_, (cell_of_row _ w10.heap.size 10 _ _ (0, 0) hb).trans rfl, b10, rfl, F10.below E10⟩
   | j + 11, h1 => simp [callT] at h1
  exact bodyPost_ret (v := .slice (some ⟨w10.heap.size, 0, none⟩) 11 11) (by simp [results, Tryd.results30, go_sem]) rfl ⟨w10.heap.size, rfl, P, E0⟩
end Go.Proofs.YtafnlhnenmpfoaaDoor
