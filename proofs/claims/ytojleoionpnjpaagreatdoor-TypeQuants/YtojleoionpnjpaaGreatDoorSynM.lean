/- Trees, and what tokens read as: a plain reader. No program. -/
import Derived.Test.YtojleoionpnjpaaGreatDoorLexT
import Derived.WalkLawsBesides
import Derived.Deep.RegionHeld3
namespace Go.Proofs.YtojleoionpnjpaaGreatDoor
open Go.ChangeShapes Go.WideShapes Go.ChangeAt Go.RowKit
set_option linter.unusedVariables false
set_option linter.unusedSimpArgs false

/-- A box that holds the kinds of a fixed rule. -/
def Fxd (w : World) (b : Nat) (ks : List Int) : Prop :=
  b < w.heap.size ∧ ∃ g cap, g < w.heap.size ∧ w.cell? ⟨b, 0, none⟩ = some (.slice (some ⟨g, 0, none⟩) ks.length cap) ∧ ∀ (j : Nat) (k : Int), ks[j]? = some k → w.cell? ⟨g, j, none⟩ = some (.int .i64 k)
theorem Fxd.below {w w' : World} {b : Nat} {ks : List Int} (h : Fxd w b ks) (B : Below w.heap.size w w') : Fxd w' b ks := by
  obtain ⟨h1, g, cap, h2, h3, h4⟩ := h
  exact ⟨Nat.lt_of_lt_of_le h1 B.size, g, cap, Nat.lt_of_lt_of_le h2 B.size, (B.cell h1).trans h3, fun j k hk => (B.cell h2).trans (h4 j k hk)⟩
set_option maxRecDepth 100000 in
theorem fixed1_c {w : World} {b : Nat} {ks : List Int} {k : Int} (h : Fxd w b ks) (ev0 ev1 ev2 ev3 ev4 : Value) (da : Option Addr) (i dc : Nat) (hk : ks[i]? = some k) (hl : ks.length ≤ 3) :
    Calls Tryz.prog 69 #[.agg #[ev0, ev1, ev2, ev3, ev4], .slice da i dc, .pointer (some ⟨b, 0, none⟩)] w fun e w' => e = .returned (.int .i64 k) ∧ Below w.heap.size w w' := by
  obtain ⟨hb, g, cap, hg, c0, cs⟩ := h
  have hi : i < ks.length := by
    by_cases hi : i < ks.length
    · exact hi
    · rw [List.getElem?_eq_none (by omega)] at hk; cases hk
  have c1 := cs i k hk
  generalize ks.length = n at *
  clear cs hk
  have B1 : Below w.heap.size w (w.alloc (.cells #[ev0, ev1, ev2, ev3, ev4] 25)) := (Below.refl _ w).alloc (Nat.le_refl _) _
  have d0 := (B1.cell (p := ⟨b, 0, none⟩) hb).trans c0
  have d1 := (B1.cell (p := ⟨g, i, none⟩) hg).trans c1
  go_enter Tryz.func69, Tryz.ntmps69
  go_wp2_with fail
  exact bodyPost_ret (v := .int .i64 k) (by simp [results, Tryz.results69, go_sem]) rfl ⟨rfl, B1⟩
theorem fixed_c {w : World} {g cap : Nat} (ks : List Int) (hg : g < w.heap.size) (h : ∀ (j : Nat) (k : Int), ks[j]? = some k → w.cell? ⟨g, j, none⟩ = some (.int .i64 k)) :
    Calls Tryz.prog 39 #[.slice (some ⟨g, 0, none⟩) ks.length cap] w fun e w' => e = .returned (.func (.func 69) #[] #[.pointer (some ⟨w.heap.size, 0, none⟩)]) ∧ Fxd w' w.heap.size ks ∧ Below w.heap.size w w' := by
  have B1 : Below w.heap.size w (w.alloc (.cells #[.slice (some ⟨g, 0, none⟩) ks.length cap] 62)) := (Below.refl _ w).alloc (Nat.le_refl _) _
  have F1 : Fxd (w.alloc (.cells #[.slice (some ⟨g, 0, none⟩) ks.length cap] 62)) w.heap.size ks := by
    refine ⟨by simp, g, cap, by simp; omega, ?_, fun j k hk => (B1.cell (p := ⟨g, j, none⟩) hg).trans (h j k hk)⟩
    exact (cell_of_row _ w.heap.size 0 _ _ (0, 0) (heap_alloc_new w _)).trans rfl
  generalize hn : ks.length = n at *
  clear hn h
  go_enter Tryz.func39, Tryz.ntmps39
  go_wp2_with fail
  exact bodyPost_ret (v := .func (.func 69) #[] #[.pointer (some ⟨w.heap.size, 0, none⟩)]) (by simp [results, Tryz.results39, go_sem]) rfl ⟨rfl, F1, B1⟩
/-- Kinds in a slice. -/
def Kns (w : World) (v : Value) (d : List Int) : Prop :=
  ∃ (da : Option Addr) (cap : Nat), v = .slice da d.length cap ∧ ∀ (j : Nat) (k : Int), d[j]? = some k → ∃ g off, da = some ⟨g, off, none⟩ ∧ g < w.heap.size ∧ w.cell? ⟨g, off + j, none⟩ = some (.int .i64 k)
theorem Kns.below {w w' : World} {v : Value} {d : List Int} (h : Kns w v d) (B : Below w.heap.size w w') : Kns w' v d := by
  obtain ⟨da, cap, h1, h2⟩ := h
  refine ⟨da, cap, h1, fun j k hk => ?_⟩
  obtain ⟨g, off, h3, h4, h5⟩ := h2 j k hk
  exact ⟨g, off, h3, Nat.lt_of_lt_of_le h4 B.size, (B.cell (p := ⟨g, off + j, none⟩) h4).trans h5⟩
set_option maxRecDepth 100000 in
theorem alike_c {w : World} {v : Value} {d : List Int} (h : Kns w v d) (ev0 ev1 ev2 ev3 ev4 : Value) :
    Calls Tryz.prog 40 #[.agg #[ev0, ev1, ev2, ev3, ev4], v] w fun e w' => e = .returned (.int .i64 (match d with | [] => 0 | [a] => a | _ => 2)) ∧ Below w.heap.size w w' := by
  have B1 : Below w.heap.size w (w.alloc (.cells #[ev0, ev1, ev2, ev3, ev4] 25)) := (Below.refl _ w).alloc (Nat.le_refl _) _
  have h' := h.below B1
  obtain ⟨da, cap, rfl, -⟩ := h
  obtain ⟨da2, cap2, e2, h2⟩ := h'
  injection e2 with e3 e4 e5
  subst e3
  match d, h2 with
  | [], h2 =>
    clear h2
    simp only [List.length_nil]
    go_enter Tryz.func40, Tryz.ntmps40
    go_wp2_with fail
    exact bodyPost_ret (v := .int .i64 0) (by simp [results, Tryz.results40, go_sem]) rfl ⟨rfl, B1⟩
  | [a], h2 =>
    obtain ⟨g, off, rfl, h4, h5⟩ := h2 0 a rfl
    clear h2
    simp only [List.length_cons, List.length_nil, Nat.add_zero] at h5 ⊢
    go_enter Tryz.func40, Tryz.ntmps40
    go_wp2_with fail
    exact bodyPost_ret (v := .int .i64 a) (by simp [results, Tryz.results40, go_sem]) rfl ⟨rfl, B1⟩
  | a :: b :: r, h2 =>
    clear h2
    have hn0 : decide (((a :: b :: r).length : Int) = 0) = false := by simp; omega
    have hn1 : decide (((a :: b :: r).length : Int) = 1) = false := by simp; omega
    have hx0 : ((a :: b :: r).length : Int) ≠ 0 := by simp; omega
    have hx1 : ((a :: b :: r).length : Int) ≠ 1 := by simp; omega
    show Calls _ _ _ _ fun e w' => e = .returned (.int .i64 2) ∧ Below w.heap.size w w'
    generalize (a :: b :: r).length = n at *
    go_enter Tryz.func40, Tryz.ntmps40
    go_wp2_with fail
    exact bodyPost_ret (v := .int .i64 2) (by simp [results, Tryz.results40, go_sem]) rfl ⟨rfl, B1⟩
set_option maxRecDepth 100000 in
theorem choice_c {w : World} {v : Value} {d : List Int} (h : Kns w v d) (ev0 ev1 ev2 ev3 ev4 : Value) :
    Calls Tryz.prog 41 #[.agg #[ev0, ev1, ev2, ev3, ev4], v] w fun e w' => e = .returned (.int .i64 (match d with | [] => 2 | [_] => 0 | _ :: b :: _ => b)) ∧ Below w.heap.size w w' := by
  have B1 : Below w.heap.size w (w.alloc (.cells #[ev0, ev1, ev2, ev3, ev4] 25)) := (Below.refl _ w).alloc (Nat.le_refl _) _
  have h' := h.below B1
  obtain ⟨da, cap, rfl, -⟩ := h
  obtain ⟨da2, cap2, e2, h2⟩ := h'
  injection e2 with e3 e4 e5
  subst e3
  match d, h2 with
  | [], h2 =>
    clear h2
    simp only [List.length_nil]
    go_enter Tryz.func41, Tryz.ntmps41
    go_wp2_with fail
    exact bodyPost_ret (v := .int .i64 2) (by simp [results, Tryz.results41, go_sem]) rfl ⟨rfl, B1⟩
  | [a], h2 =>
    clear h2
    simp only [List.length_cons, List.length_nil]
    go_enter Tryz.func41, Tryz.ntmps41
    go_wp2_with fail
    exact bodyPost_ret (v := .int .i64 0) (by simp [results, Tryz.results41, go_sem]) rfl ⟨rfl, B1⟩
  | a :: b :: r, h2 =>
    obtain ⟨g, off, rfl, h4, h5⟩ := h2 1 b rfl
    clear h2
    have hn0 : decide (((a :: b :: r).length : Int) = 0) = false := by simp; omega
    have hn1 : decide (((a :: b :: r).length : Int) = 1) = false := by simp; omega
    have hx0 : ((a :: b :: r).length : Int) ≠ 0 := by simp; omega
    have hx1 : ((a :: b :: r).length : Int) ≠ 1 := by simp; omega
    have hx2 : 1 < (a :: b :: r).length := by simp
    show Calls _ _ _ _ fun e w' => e = .returned (.int .i64 b) ∧ Below w.heap.size w w'
    generalize (a :: b :: r).length = n at *
    go_enter Tryz.func41, Tryz.ntmps41
    go_wp2_with fail
    exact bodyPost_ret (v := .int .i64 b) (by simp [results, Tryz.results41, go_sem]) rfl ⟨rfl, B1⟩
set_option maxRecDepth 100000 in
theorem members_c {w : World} {v : Value} {d : List Int} (h : Kns w v d) (ev0 ev1 ev2 ev4 : Value) (ka : Option Addr) (len kc : Nat) :
    Calls Tryz.prog 45 #[.agg #[ev0, ev1, ev2, .slice ka len kc, ev4], v] w fun e w' => e = .returned (.int .i64 (if d.length < len then 3 else 4)) ∧ Below w.heap.size w w' := by
  have B1 : Below w.heap.size w (w.alloc (.cells #[ev0, ev1, ev2, .slice ka len kc, ev4] 25)) := (Below.refl _ w).alloc (Nat.le_refl _) _
  have hb : (w.alloc (.cells #[ev0, ev1, ev2, .slice ka len kc, ev4] 25)).heap[w.heap.size]? = some (.cells #[ev0, ev1, ev2, .slice ka len kc, ev4] 25 (0, 0)) := heap_alloc_new w _
  have c3 : (w.alloc (.cells #[ev0, ev1, ev2, .slice ka len kc, ev4] 25)).cell? ⟨w.heap.size, 3, none⟩ = some (.slice ka len kc) := (cell_of_row _ w.heap.size 3 _ _ (0, 0) hb).trans rfl
  obtain ⟨da, cap, rfl, -⟩ := h
  clear hb
  generalize d.length = n
  by_cases hl : n < len
  · rw [if_pos hl]
    have hd : decide ((n : Int) < (len : Int)) = true := by simp; omega
    have hd2 : (n : Int) < (len : Int) := by omega
    go_enter Tryz.func45, Tryz.ntmps45
    go_wp2_with fail
    exact bodyPost_ret (v := .int .i64 3) (by simp [results, Tryz.results45, go_sem]) rfl ⟨rfl, B1⟩
  · rw [if_neg hl]
    have hd : decide ((n : Int) < (len : Int)) = false := by simp; omega
    have hd2 : ¬ (n : Int) < (len : Int) := by omega
    go_enter Tryz.func45, Tryz.ntmps45
    go_wp2_with fail
    exact bodyPost_ret (v := .int .i64 4) (by simp [results, Tryz.results45, go_sem]) rfl ⟨rfl, B1⟩
end Go.Proofs.YtojleoionpnjpaaGreatDoor
namespace Go.Proofs.YtojleoionpnjpaaGreatDoor
open Go.ChangeShapes Go.WideShapes Go.ChangeAt Go.RowKit
set_option linter.unusedVariables false
set_option linter.unusedSimpArgs false

/-- A function value that is a fixed rule. -/
def FxV (w : World) (v : Value) (ks : List Int) : Prop := ∃ b, v = .func (.func 69) #[] #[.pointer (some ⟨b, 0, none⟩)] ∧ Fxd w b ks
theorem FxV.below {w w' : World} {v : Value} {ks : List Int} (h : FxV w v ks) (B : Below w.heap.size w w') : FxV w' v ks := by
  obtain ⟨b, h1, h2⟩ := h
  exact ⟨b, h1, h2.below B⟩
theorem fixed_v {w : World} {g cap n : Nat} (ks : List Int) (hn : ks.length = n) (hg : g < w.heap.size) (h : ∀ (j : Nat) (k : Int), ks[j]? = some k → w.cell? ⟨g, j, none⟩ = some (.int .i64 k)) :
    Calls Tryz.prog 39 #[.slice (some ⟨g, 0, none⟩) n cap] w fun e w' => ∃ v, e = .returned v ∧ FxV w' v ks ∧ Below w.heap.size w w' := by
  subst hn
  refine (fixed_c ks hg h).mono ?_
  rintro e w' ⟨rfl, h1, h2⟩
  exact ⟨_, rfl, ⟨_, rfl, h1⟩, h2⟩
theorem newL (w : World) (l : List Int) (T : TypeId) : ∀ (j : Nat) (k : Int), l[j]? = some k → (w.alloc (.cells (l.map (fun x => Value.int .i64 x)).toArray T)).cell? ⟨w.heap.size, j, none⟩ = some (.int .i64 k) := by
  intro j k hj
  have hb : (w.alloc (.cells (l.map (fun x => Value.int .i64 x)).toArray T)).heap[w.heap.size]? = some (.cells (l.map (fun x => Value.int .i64 x)).toArray T (0, 0)) := heap_alloc_new w _
  refine (cell_of_row _ w.heap.size j _ _ (0, 0) hb).trans ?_
  simp [hj]
/-- A call of 'fixed' on a slice that was just made. -/
theorem fixed_n (w : World) (ks : List Int) (T : TypeId) (n : Nat) (hn : ks.length = n) :
    Calls Tryz.prog 39 #[.slice (some ⟨w.heap.size, 0, none⟩) n n] (w.alloc (.cells (ks.map (fun x => Value.int .i64 x)).toArray T)) fun e w' => ∃ b, e = .returned (.func (.func 69) #[] #[.pointer (some ⟨b, 0, none⟩)]) ∧ Fxd w' b ks ∧ Below w.heap.size w w' := by
  refine (fixed_v (w := w.alloc (.cells (ks.map (fun x => Value.int .i64 x)).toArray T)) ks hn (by simp) (newL w ks T)).mono ?_
  rintro e w' ⟨v, rfl, ⟨b, rfl, h1⟩, h2⟩
  exact ⟨b, rfl, h1, ((Below.refl _ w).alloc (Nat.le_refl _) _).trans (h2.mono (by simp))⟩
/-- A table of fixed rules. -/
def FxT (w : World) (g : Nat) (T : List (List Int)) : Prop :=
  g < w.heap.size ∧ ∀ (j : Nat) (ks : List Int), T[j]? = some ks → ks ≠ [] → ∃ v, w.cell? ⟨g, j, none⟩ = some v ∧ FxV w v ks
theorem FxT.below {w w' : World} {g : Nat} {T : List (List Int)} (h : FxT w g T) (B : Below w.heap.size w w') : FxT w' g T := by
  refine ⟨Nat.lt_of_lt_of_le h.1 B.size, fun j ks h1 h2 => ?_⟩
  obtain ⟨v, h3, h4⟩ := h.2 j ks h1 h2
  exact ⟨v, (B.cell (p := ⟨g, j, none⟩) h.1).trans h3, h4.below B⟩
def quantT : List (List Int) := [[], [4, 2, 2], [4, 2, 2], [4, 2, 1], [4, 1, 1], [4, 1, 1], [4, 1, 1]]
set_option maxRecDepth 100000 in
set_option maxHeartbeats 4000000 in
theorem quantifiers_c (w : World) : Calls Tryz.prog 44 #[] w fun e w' => ∃ g, e = .returned (.slice (some ⟨g, 0, none⟩) 7 7) ∧ FxT w' g quantT ∧ Below w.heap.size w w' := by
  go_enter Tryz.func44, Tryz.ntmps44
  go_wp2_with fail
  refine (fixed_n w [4, 2, 2] _ _ rfl).mono ?_
  rintro e w1 ⟨b1, rfl, F1, S1⟩
  go_wp2_with fail
  refine (fixed_n w1 [4, 2, 2] _ _ rfl).mono ?_
  rintro e w2 ⟨b2, rfl, F2, S2⟩
  go_wp2_with fail
  refine (fixed_n w2 [4, 2, 1] _ _ rfl).mono ?_
  rintro e w3 ⟨b3, rfl, F3, S3⟩
  go_wp2_with fail
  refine (fixed_n w3 [4, 1, 1] _ _ rfl).mono ?_
  rintro e w4 ⟨b4, rfl, F4, S4⟩
  go_wp2_with fail
  refine (fixed_n w4 [4, 1, 1] _ _ rfl).mono ?_
  rintro e w5 ⟨b5, rfl, F5, S5⟩
  go_wp2_with fail
  refine (fixed_n w5 [4, 1, 1] _ _ rfl).mono ?_
  rintro e w6 ⟨b6, rfl, F6, S6⟩
  go_wp2
  have E6 : Below w6.heap.size w6 (w6.alloc (.cells #[.nilFunc, .func (.func 69) #[] #[.pointer (some ⟨b1, 0, none⟩)], .func (.func 69) #[] #[.pointer (some ⟨b2, 0, none⟩)], .func (.func 69) #[] #[.pointer (some ⟨b3, 0, none⟩)], .func (.func 69) #[] #[.pointer (some ⟨b4, 0, none⟩)], .func (.func 69) #[] #[.pointer (some ⟨b5, 0, none⟩)], .func (.func 69) #[] #[.pointer (some ⟨b6, 0, none⟩)]] 81)) := (Below.refl _ w6).alloc (Nat.le_refl _) _
  have E5 := S6.trans (E6.mono S6.size)
  have E4 := S5.trans (E5.mono S5.size)
  have E3 := S4.trans (E4.mono S4.size)
  have E2 := S3.trans (E3.mono S3.size)
  have E1 := S2.trans (E2.mono S2.size)
  have E0 := S1.trans (E1.mono S1.size)
  have hb : (w6.alloc (.cells #[.nilFunc, .func (.func 69) #[] #[.pointer (some ⟨b1, 0, none⟩)], .func (.func 69) #[] #[.pointer (some ⟨b2, 0, none⟩)], .func (.func 69) #[] #[.pointer (some ⟨b3, 0, none⟩)], .func (.func 69) #[] #[.pointer (some ⟨b4, 0, none⟩)], .func (.func 69) #[] #[.pointer (some ⟨b5, 0, none⟩)], .func (.func 69) #[] #[.pointer (some ⟨b6, 0, none⟩)]] 81)).heap[w6.heap.size]? = some (.cells #[.nilFunc, .func (.func 69) #[] #[.pointer (some ⟨b1, 0, none⟩)], .func (.func 69) #[] #[.pointer (some ⟨b2, 0, none⟩)], .func (.func 69) #[] #[.pointer (some ⟨b3, 0, none⟩)], .func (.func 69) #[] #[.pointer (some ⟨b4, 0, none⟩)], .func (.func 69) #[] #[.pointer (some ⟨b5, 0, none⟩)], .func (.func 69) #[] #[.pointer (some ⟨b6, 0, none⟩)]] 81 (0, 0)) := heap_alloc_new w6 _
  have P : FxT (w6.alloc (.cells #[.nilFunc, .func (.func 69) #[] #[.pointer (some ⟨b1, 0, none⟩)], .func (.func 69) #[] #[.pointer (some ⟨b2, 0, none⟩)], .func (.func 69) #[] #[.pointer (some ⟨b3, 0, none⟩)], .func (.func 69) #[] #[.pointer (some ⟨b4, 0, none⟩)], .func (.func 69) #[] #[.pointer (some ⟨b5, 0, none⟩)], .func (.func 69) #[] #[.pointer (some ⟨b6, 0, none⟩)]] 81)) w6.heap.size quantT := by
   refine ⟨by simp, ?_⟩
   intro j ks h1 h2
   match j, h1 with
   | 0, h1 => injection h1 with h1; exact absurd h1.symm h2
   | 1, h1 => injection h1 with h1; subst h1; exact ⟨_, (cell_of_row _ w6.heap.size 1 _ _ (0, 0) hb).trans rfl, b1, rfl, F1.below E1⟩
   | 2, h1 => injection h1 with h1; subst h1; exact ⟨_, (cell_of_row _ w6.heap.size 2 _ _ (0, 0) hb).trans rfl, b2, rfl, F2.below E2⟩
   | 3, h1 => injection h1 with h1; subst h1; exact ⟨_, (cell_of_row _ w6.heap.size 3 _ _ (0, 0) hb).trans rfl, b3, rfl, F3.below E3⟩
   | 4, h1 => injection h1 with h1; subst h1; exact ⟨_, (cell_of_row _ w6.heap.size 4 _ _ (0, 0) hb).trans rfl, b4, rfl, F4.below E4⟩
   | 5, h1 => injection h1 with h1; subst h1; exact ⟨_, (cell_of_row _ w6.heap.size 5 _ _ (0, 0) hb).trans rfl, b5, rfl, F5.below E5⟩
   | 6, h1 => injection h1 with h1; subst h1; exact ⟨_, (cell_of_row _ w6.heap.size 6 _ _ (0, 0) hb).trans rfl, b6, rfl, F6.below E6⟩
   | j + 7, h1 => simp [quantT] at h1
  exact bodyPost_ret (v := .slice (some ⟨w6.heap.size, 0, none⟩) 7 7) (by simp [results, Tryz.results44, go_sem]) rfl ⟨w6.heap.size, rfl, P, E0⟩
def callT : List (List Int) := [[], [3, 3, 2], [3, 3, 2], [3, 3, 1], [3, 1], [3, 1], [3, 1], [3, 1], [3, 1], [3, 1], [3, 3]]
set_option maxRecDepth 100000 in
set_option maxHeartbeats 4000000 in
theorem calls_c (w : World) : Calls Tryz.prog 43 #[] w fun e w' => ∃ g, e = .returned (.slice (some ⟨g, 0, none⟩) 11 11) ∧ FxT w' g callT ∧ Below w.heap.size w w' := by
  go_enter Tryz.func43, Tryz.ntmps43
  go_wp2_with fail
  refine (fixed_n w [3, 3, 2] _ _ rfl).mono ?_
  rintro e w1 ⟨b1, rfl, F1, S1⟩
  go_wp2_with fail
  refine (fixed_n w1 [3, 3, 2] _ _ rfl).mono ?_
  rintro e w2 ⟨b2, rfl, F2, S2⟩
  go_wp2_with fail
  refine (fixed_n w2 [3, 3, 1] _ _ rfl).mono ?_
  rintro e w3 ⟨b3, rfl, F3, S3⟩
  go_wp2_with fail
  refine (fixed_n w3 [3, 1] _ _ rfl).mono ?_
  rintro e w4 ⟨b4, rfl, F4, S4⟩
  go_wp2_with fail
  refine (fixed_n w4 [3, 1] _ _ rfl).mono ?_
  rintro e w5 ⟨b5, rfl, F5, S5⟩
  go_wp2_with fail
  refine (fixed_n w5 [3, 1] _ _ rfl).mono ?_
  rintro e w6 ⟨b6, rfl, F6, S6⟩
  go_wp2_with fail
  refine (fixed_n w6 [3, 1] _ _ rfl).mono ?_
  rintro e w7 ⟨b7, rfl, F7, S7⟩
  go_wp2_with fail
  refine (fixed_n w7 [3, 1] _ _ rfl).mono ?_
  rintro e w8 ⟨b8, rfl, F8, S8⟩
  go_wp2_with fail
  refine (fixed_n w8 [3, 1] _ _ rfl).mono ?_
  rintro e w9 ⟨b9, rfl, F9, S9⟩
  go_wp2_with fail
  refine (fixed_n w9 [3, 3] _ _ rfl).mono ?_
  rintro e w10 ⟨b10, rfl, F10, S10⟩
  go_wp2
  have E10 : Below w10.heap.size w10 (w10.alloc (.cells #[.nilFunc, .func (.func 69) #[] #[.pointer (some ⟨b1, 0, none⟩)], .func (.func 69) #[] #[.pointer (some ⟨b2, 0, none⟩)], .func (.func 69) #[] #[.pointer (some ⟨b3, 0, none⟩)], .func (.func 69) #[] #[.pointer (some ⟨b4, 0, none⟩)], .func (.func 69) #[] #[.pointer (some ⟨b5, 0, none⟩)], .func (.func 69) #[] #[.pointer (some ⟨b6, 0, none⟩)], .func (.func 69) #[] #[.pointer (some ⟨b7, 0, none⟩)], .func (.func 69) #[] #[.pointer (some ⟨b8, 0, none⟩)], .func (.func 69) #[] #[.pointer (some ⟨b9, 0, none⟩)], .func (.func 69) #[] #[.pointer (some ⟨b10, 0, none⟩)]] 81)) := (Below.refl _ w10).alloc (Nat.le_refl _) _
  have E9 := S10.trans (E10.mono S10.size)
  have E8 := S9.trans (E9.mono S9.size)
  have E7 := S8.trans (E8.mono S8.size)
  have E6 := S7.trans (E7.mono S7.size)
  have E5 := S6.trans (E6.mono S6.size)
  have E4 := S5.trans (E5.mono S5.size)
  have E3 := S4.trans (E4.mono S4.size)
  have E2 := S3.trans (E3.mono S3.size)
  have E1 := S2.trans (E2.mono S2.size)
  have E0 := S1.trans (E1.mono S1.size)
  have hb : (w10.alloc (.cells #[.nilFunc, .func (.func 69) #[] #[.pointer (some ⟨b1, 0, none⟩)], .func (.func 69) #[] #[.pointer (some ⟨b2, 0, none⟩)], .func (.func 69) #[] #[.pointer (some ⟨b3, 0, none⟩)], .func (.func 69) #[] #[.pointer (some ⟨b4, 0, none⟩)], .func (.func 69) #[] #[.pointer (some ⟨b5, 0, none⟩)], .func (.func 69) #[] #[.pointer (some ⟨b6, 0, none⟩)], .func (.func 69) #[] #[.pointer (some ⟨b7, 0, none⟩)], .func (.func 69) #[] #[.pointer (some ⟨b8, 0, none⟩)], .func (.func 69) #[] #[.pointer (some ⟨b9, 0, none⟩)], .func (.func 69) #[] #[.pointer (some ⟨b10, 0, none⟩)]] 81)).heap[w10.heap.size]? = some (.cells #[.nilFunc, .func (.func 69) #[] #[.pointer (some ⟨b1, 0, none⟩)], .func (.func 69) #[] #[.pointer (some ⟨b2, 0, none⟩)], .func (.func 69) #[] #[.pointer (some ⟨b3, 0, none⟩)], .func (.func 69) #[] #[.pointer (some ⟨b4, 0, none⟩)], .func (.func 69) #[] #[.pointer (some ⟨b5, 0, none⟩)], .func (.func 69) #[] #[.pointer (some ⟨b6, 0, none⟩)], .func (.func 69) #[] #[.pointer (some ⟨b7, 0, none⟩)], .func (.func 69) #[] #[.pointer (some ⟨b8, 0, none⟩)], .func (.func 69) #[] #[.pointer (some ⟨b9, 0, none⟩)], .func (.func 69) #[] #[.pointer (some ⟨b10, 0, none⟩)]] 81 (0, 0)) := heap_alloc_new w10 _
  have P : FxT (w10.alloc (.cells #[.nilFunc, .func (.func 69) #[] #[.pointer (some ⟨b1, 0, none⟩)], .func (.func 69) #[] #[.pointer (some ⟨b2, 0, none⟩)], .func (.func 69) #[] #[.pointer (some ⟨b3, 0, none⟩)], .func (.func 69) #[] #[.pointer (some ⟨b4, 0, none⟩)], .func (.func 69) #[] #[.pointer (some ⟨b5, 0, none⟩)], .func (.func 69) #[] #[.pointer (some ⟨b6, 0, none⟩)], .func (.func 69) #[] #[.pointer (some ⟨b7, 0, none⟩)], .func (.func 69) #[] #[.pointer (some ⟨b8, 0, none⟩)], .func (.func 69) #[] #[.pointer (some ⟨b9, 0, none⟩)], .func (.func 69) #[] #[.pointer (some ⟨b10, 0, none⟩)]] 81)) w10.heap.size callT := by
   refine ⟨by simp, ?_⟩
   intro j ks h1 h2
   match j, h1 with
   | 0, h1 => injection h1 with h1; exact absurd h1.symm h2
   | 1, h1 => injection h1 with h1; subst h1; exact ⟨_, (cell_of_row _ w10.heap.size 1 _ _ (0, 0) hb).trans rfl, b1, rfl, F1.below E1⟩
   | 2, h1 => injection h1 with h1; subst h1; exact ⟨_, (cell_of_row _ w10.heap.size 2 _ _ (0, 0) hb).trans rfl, b2, rfl, F2.below E2⟩
   | 3, h1 => injection h1 with h1; subst h1; exact ⟨_, (cell_of_row _ w10.heap.size 3 _ _ (0, 0) hb).trans rfl, b3, rfl, F3.below E3⟩
   | 4, h1 => injection h1 with h1; subst h1; exact ⟨_, (cell_of_row _ w10.heap.size 4 _ _ (0, 0) hb).trans rfl, b4, rfl, F4.below E4⟩
   | 5, h1 => injection h1 with h1; subst h1; exact ⟨_, (cell_of_row _ w10.heap.size 5 _ _ (0, 0) hb).trans rfl, b5, rfl, F5.below E5⟩
   | 6, h1 => injection h1 with h1; subst h1; exact ⟨_, (cell_of_row _ w10.heap.size 6 _ _ (0, 0) hb).trans rfl, b6, rfl, F6.below E6⟩
   | 7, h1 => injection h1 with h1; subst h1; exact ⟨_, (cell_of_row _ w10.heap.size 7 _ _ (0, 0) hb).trans rfl, b7, rfl, F7.below E7⟩
   | 8, h1 => injection h1 with h1; subst h1; exact ⟨_, (cell_of_row _ w10.heap.size 8 _ _ (0, 0) hb).trans rfl, b8, rfl, F8.below E8⟩
   | 9, h1 => injection h1 with h1; subst h1; exact ⟨_, (cell_of_row _ w10.heap.size 9 _ _ (0, 0) hb).trans rfl, b9, rfl, F9.below E9⟩
   | 10, h1 => injection h1 with h1; subst h1; exact ⟨_, (cell_of_row _ w10.heap.size 10 _ _ (0, 0) hb).trans rfl, b10, rfl, F10.below E10⟩
   | j + 11, h1 => simp [callT] at h1
  exact bodyPost_ret (v := .slice (some ⟨w10.heap.size, 0, none⟩) 11 11) (by simp [results, Tryz.results43, go_sem]) rfl ⟨w10.heap.size, rfl, P, E0⟩
end Go.Proofs.YtojleoionpnjpaaGreatDoor
namespace Go.Proofs.YtojleoionpnjpaaGreatDoor
set_option linter.unusedVariables false

/-- Trees in a row: a tree (kind, number, name, place, its kids), and those behind it. -/
structure Nd (α : Type) where
  k : Int
  n : Int
  nm : List UInt8
  a : Int
  kids : α
  rest : α
structure Fs where
  v : Option (Nd Fs)
abbrev Fs.nil : Fs := ⟨none⟩
abbrev Fs.cons (k n : Int) (nm : List UInt8) (a : Int) (ks r : Fs) : Fs := ⟨some ⟨k, n, nm, a, ks, r⟩⟩
theorem Fs.on {P : Fs → Prop} (f : Fs) (nil : P .nil) (cons : ∀ k n nm a ks r, P (.cons k n nm a ks r)) : P f := by
  obtain ⟨v⟩ := f
  cases v with
  | none => exact nil
  | some z => obtain ⟨k, n, nm, a, ks, r⟩ := z; exact cons k n nm a ks r
/-- A tree. -/
structure Ex where
  k : Int
  n : Int
  nm : List UInt8
  a : Int
  kids : Fs
def Fs.len : Fs → Nat
  | ⟨none⟩ => 0
  | ⟨some ⟨_, _, _, _, _, r⟩⟩ => r.len + 1
def Fs.app : Fs → Fs → Fs
  | ⟨none⟩, y => y
  | ⟨some ⟨k, n, nm, a, ks, r⟩⟩, y => .cons k n nm a ks (r.app y)
def one (e : Ex) : Fs := .cons e.k e.n e.nm e.a e.kids .nil
def Fs.snoc (f : Fs) (e : Ex) : Fs := f.app (one e)
theorem Fs.len_app : ∀ (x y : Fs), (x.app y).len = x.len + y.len
  | ⟨none⟩, y => by simp [Fs.app, Fs.len]
  | ⟨some ⟨k, n, nm, a, ks, r⟩⟩, y => by simp only [Fs.app, Fs.len]; rw [Fs.len_app r y]; omega
theorem Fs.len_snoc (x : Fs) (e : Ex) : (x.snoc e).len = x.len + 1 := by unfold Fs.snoc; rw [Fs.len_app]; rfl
def noEx : Ex := ⟨0, 0, [], 0, .nil⟩
def Fs.head : Fs → Ex
  | ⟨none⟩ => noEx
  | ⟨some ⟨k, n, nm, a, ks, _⟩⟩ => ⟨k, n, nm, a, ks⟩
/-- What a reader comes to: it has no more strength; it gives up, with an error and its place; or what is read, and the tokens behind it. -/
structure Rs (α : Type) where
  v : Option (Sum (Nat × Nat) (α × List Tk))
abbrev Rs.out {α : Type} : Rs α := ⟨none⟩
abbrev Rs.bad {α : Type} (e a : Nat) : Rs α := ⟨some (.inl (e, a))⟩
abbrev Rs.ok {α : Type} (x : α) (t : List Tk) : Rs α := ⟨some (.inr (x, t))⟩
theorem Rs.on {α : Type} {P : Rs α → Prop} (R : Rs α) (out : P .out) (bad : ∀ e a, P (.bad e a)) (ok : ∀ x t, P (.ok x t)) : P R := by
  obtain ⟨v⟩ := R
  match v with
  | none => exact out
  | some (.inl (e, a)) => exact bad e a
  | some (.inr (x, t)) => exact ok x t
theorem Rs.ok_inj {α : Type} {x y : α} {t u : List Tk} (h : Rs.ok x t = Rs.ok y u) : x = y ∧ t = u := by simpa using h
def Rs.bind {α β : Type} : Rs α → (α → List Tk → Rs β) → Rs β
  | ⟨none⟩, _ => .out
  | ⟨some (.inl (e, a))⟩, _ => .bad e a
  | ⟨some (.inr (x, ts))⟩, f => f x ts
/-- A reader of a row: the row, openings, quantifiers, tokens. -/
abbrev Rdr := Nat → Nat → Nat → List Tk → Rs Ex
def passT (s : List UInt8) : List Tk → Rs Nat
  | [] => .out
  | x :: r => if x.t = s then .ok x.a r else .bad 120 x.a
def passK (k : Nat) : List Tk → Rs Tk
  | [] => .out
  | x :: r => if x.k = k then .ok x r else .bad 120 x.a
def enterT (s : List UInt8) (o : Nat) : List Tk → Rs Nat
  | [] => .out
  | x :: r => if x.t = s then (if o = 64 then .bad 121 x.a else .ok x.a r) else .bad 120 x.a
/-- The operators: text, kind, row, the rows that are asked for. -/
def opsL : List (List UInt8 × Nat × Nat × Nat × Nat) :=
  [([111, 114], 18, 1, 1, 2), ([97, 110, 100], 17, 2, 2, 3), ([61], 13, 4, 5, 5), ([33, 61], 14, 4, 5, 5), ([60], 15, 4, 5, 5), ([60, 61], 16, 4, 5, 5), ([43], 8, 5, 5, 6), ([45], 9, 5, 5, 6), ([42], 10, 6, 6, 7), ([47], 11, 6, 6, 7), ([37], 12, 6, 6, 7)]
def opAt (t : List UInt8) (row : Nat) : Option (List UInt8 × Nat × Nat × Nat × Nat) := opsL.find? fun x => x.1 == t && x.2.2.1 == row
/-- The words of calls, with the number of each and of its arguments. -/
def callsL : List (List UInt8 × Nat × Nat) :=
  [([99, 111, 110, 110, 101, 99, 116, 101, 100], 1, 2), ([98, 108, 111, 99, 107], 2, 2), ([98, 111, 116, 116, 108, 101, 110, 101, 99, 107], 3, 2), ([115, 105, 122, 101], 4, 1), ([116, 111, 116, 97, 108], 5, 1), ([108, 101, 97, 115, 116], 6, 1), ([109, 111, 115, 116], 7, 1), ([118, 97, 108, 117, 101], 8, 1), ([100, 101, 103, 114, 101, 101], 9, 1), ([114, 101, 112], 10, 1)]
def callAt (t : List UInt8) : Option (List UInt8 × Nat × Nat) := callsL.find? fun x => x.1 == t
/-- The words of quantifiers, with the number of each. -/
def quantsL : List (List UInt8 × Nat) :=
  [([97, 108, 108], 1), ([115, 111, 109, 101], 2), ([99, 111, 117, 110, 116], 3), ([115, 117, 109], 4), ([109, 105, 110], 5), ([109, 97, 120], 6)]
def quantAt (t : List UInt8) : Option (List UInt8 × Nat) := quantsL.find? fun x => x.1 == t
/-- A chain goes on. -/
def chainL (rec : Rdr) : Nat → Nat → Nat → Nat → Ex → List Tk → Rs Ex
  | 0, _, _, _, _, _ => .out
  | m + 1, row, o, q, left, ts =>
    match ts with
    | [] => .out
    | x :: r =>
      match opAt x.t row with
      | none => .ok left ts
      | some (_, k, _, l, rt) => (rec rt o q r).bind fun right t2 => if row < l then .ok ⟨(k : Nat), 0, [], x.a, (one left).snoc right⟩ t2 else chainL rec m row o q ⟨(k : Nat), 0, [], x.a, (one left).snoc right⟩ t2
def prefR (rec : Rdr) (s : List UInt8) (k : Int) (row o q : Nat) (ts : List Tk) : Rs Ex :=
  match ts with
  | [] => .out
  | x :: r => if x.t = s then (if o = 64 then .bad 121 x.a else (rec row (o + 1) q r).bind fun kid t2 => .ok ⟨k, 0, [], x.a, one kid⟩ t2) else rec (row + 1) o q ts
/-- More arguments. -/
def argsL (rec : Rdr) : Nat → Nat → Nat → Fs → List Tk → Rs Fs
  | 0, _, _, acc, ts => .ok acc ts
  | j + 1, o, q, acc, ts => (passT [44] ts).bind fun _ t1 => (rec 1 o q t1).bind fun e t2 => argsL rec j o q (acc.snoc e) t2
/-- Some parts in parentheses. -/
def argsR (rec : Rdr) (many o q : Nat) (ts : List Tk) : Rs Fs :=
  (enterT [40] o ts).bind fun _ t1 => (rec 1 (o + 1) q t1).bind fun e t2 => (argsL rec (many - 1) (o + 1) q (one e) t2).bind fun ks t3 => (passT [41] t3).bind fun _ t4 => .ok ks t4
def choiceR (rec : Rdr) (o q : Nat) (ts : List Tk) : Rs Ex :=
  (enterT [105, 102] o ts).bind fun a t1 => (rec 1 (o + 1) q t1).bind fun x t2 => (passT [116, 104, 101, 110] t2).bind fun _ t3 => (rec 1 (o + 1) q t3).bind fun y t4 => (passT [101, 108, 115, 101] t4).bind fun _ t5 => (rec 1 (o + 1) q t5).bind fun z t6 => .ok ⟨19, 0, [], a, ((one x).snoc y).snoc z⟩ t6
/-- More members. -/
def memL (rec : Rdr) : Nat → Nat → Nat → Fs → List Tk → Rs Fs
  | 0, _, _, _, _ => .out
  | m + 1, o, q, acc, ts =>
    match ts with
    | [] => .out
    | x :: r => if x.t = [44] then (rec 1 o q r).bind fun e t2 => memL rec m o q (acc.snoc e) t2 else .ok acc ts
def memR (rec : Rdr) (m o q : Nat) (ts : List Tk) : Rs Fs :=
  match ts with
  | [] => .out
  | x :: r => if x.t = [125] then .ok .nil ts else (rec 1 o q ts).bind fun e t1 => memL rec m o q (one e) t1
def setR (rec : Rdr) (m o q : Nat) (ts : List Tk) : Rs Ex :=
  match ts with
  | [] => .out
  | x :: r =>
    if x.k = 2 then .ok ⟨23, 0, x.t, x.a, .nil⟩ r
    else if x.t = [118, 101, 114, 116, 105, 99, 101, 115] then .ok ⟨22, 0, [], x.a, .nil⟩ r
    else if x.t = [97, 114, 111, 117, 110, 100] then (argsR rec 1 o q r).bind fun ks t => .ok ⟨24, 0, [], x.a, ks⟩ t
    else (enterT [123] o ts).bind fun a t1 => (memR rec m (o + 1) q t1).bind fun ks t2 => (passT [125] t2).bind fun _ t3 => .ok ⟨25, 0, [], a, ks⟩ t3
def quantR (rec : Rdr) (m : Nat) (s : List UInt8) (n o q : Nat) (ts : List Tk) : Rs Ex :=
  match ts with
  | [] => .out
  | x :: r =>
    if q = 4 then .bad 121 x.a
    else (enterT s o ts).bind fun a t1 => (passK 2 t1).bind fun y t2 => (passT [105, 110] t2).bind fun _ t3 => (setR rec m (o + 1) (q + 1) t3).bind fun e t4 => (passT [58] t4).bind fun _ t5 => (rec 1 (o + 1) (q + 1) t5).bind fun b t6 => .ok ⟨21, (n : Nat), y.t, a, (one e).snoc b⟩ t6
def atomR (rec : Rdr) (m o q : Nat) (ts : List Tk) : Rs Ex :=
  match ts with
  | [] => .out
  | x :: r =>
    if x.k = 1 then .ok ⟨1, x.n, [], x.a, .nil⟩ r
    else if x.k = 2 then .ok ⟨4, 0, x.t, x.a, .nil⟩ r
    else if x.t = [102, 97, 108, 115, 101] then .ok ⟨2, 0, [], x.a, .nil⟩ r
    else if x.t = [116, 114, 117, 101] then .ok ⟨2, 1, [], x.a, .nil⟩ r
    else if x.t = [64] then (passK 1 r).bind fun y t1 => .ok ⟨3, y.n, [], x.a, .nil⟩ t1
    else if x.t = [40] then (argsR rec 1 o q ts).bind fun ks t1 => .ok ks.head t1
    else if x.t = [105, 102] then choiceR rec o q ts
    else match callAt x.t with
      | some (_, n, many) => (argsR rec many o q r).bind fun ks t1 => .ok ⟨20, (n : Nat), [], x.a, ks⟩ t1
      | none =>
        match quantAt x.t with
        | some (_, n) => quantR rec m x.t n o q ts
        | none => .bad 120 x.a
/-- A row is read, with strength for so many calls. -/
def partF : Nat → Rdr
  | 0, _, _, _, _ => .out
  | n + 1, row, o, q, ts =>
    if row = 3 then prefR (partF n) [110, 111, 116] 7 3 o q ts
    else if row = 7 then prefR (partF n) [45] 6 7 o q ts
    else if row = 8 then atomR (partF n) n o q ts
    else (partF n (row + 1) o q ts).bind fun l t => chainL (partF n) n row o q l t
/-- All tokens are read. -/
def readF (n : Nat) (ts : List Tk) : Rs Ex :=
  (partF n 1 0 0 ts).bind fun e t =>
    match t with
    | [] => .out
    | x :: _ => if x.k = 0 then .ok e t else .bad 120 x.a
end Go.Proofs.YtojleoionpnjpaaGreatDoor
