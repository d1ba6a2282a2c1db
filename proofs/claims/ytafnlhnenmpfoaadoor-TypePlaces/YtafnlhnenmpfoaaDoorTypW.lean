/- Names that are bound: slices of texts. -/
import Derived.Test.YtafnlhnenmpfoaaDoorTypP
import Derived.Lib.SliceRun
namespace Go.Proofs.YtafnlhnenmpfoaaDoor
open Go.ChangeShapes Go.WideShapes Go.ChangeAt Go.RowKit
set_option linter.unusedVariables false
set_option linter.unusedSimpArgs false

/-- A box that holds a table of fixed rules. -/
def Byn (w : World) (b n : Nat) (T : List (List Int)) : Prop :=
  b < w.heap.size ∧ ∃ g cap, w.cell? ⟨b, 0, none⟩ = some (.slice (some ⟨g, 0, none⟩) n cap) ∧ FxT w g T
theorem Byn.below {w w' : World} {b n : Nat} {T : List (List Int)} (h : Byn w b n T) (B : Below w.heap.size w w') : Byn w' b n T := by
  obtain ⟨h1, g, cap, h2, h3⟩ := h
  exact ⟨Nat.lt_of_lt_of_le h1 B.size, g, cap, (B.cell h1).trans h2, h3.below B⟩
theorem byNumber_c {w : World} {g n cap : Nat} {T : List (List Int)} (h : FxT w g T) :
    Calls Tryd.prog 29 #[.slice (some ⟨g, 0, none⟩) n cap] w fun e w' => ∃ b, e = .returned (.func (.func 52) #[] #[.pointer (some ⟨b, 0, none⟩)]) ∧ Byn w' b n T ∧ Below w.heap.size w w' := by
  have B1 : Below w.heap.size w (w.alloc (.cells #[.slice (some ⟨g, 0, none⟩) n cap] 38)) := (Below.refl _ w).alloc (Nat.le_refl _) _
  have F1 : Byn (w.alloc (.cells #[.slice (some ⟨g, 0, none⟩) n cap] 38)) w.heap.size n T :=
    ⟨by simp, g, cap, (cell_of_row _ w.heap.size 0 _ _ (0, 0) (heap_alloc_new w _)).trans rfl, h.below B1⟩
  clear h
  go_enter Tryd.func29, Tryd.ntmps29
  go_wp2_with fail
  exact bodyPost_ret (v := .func (.func 52) #[] #[.pointer (some ⟨w.heap.size, 0, none⟩)]) (by simp [results, Tryd.results29, go_sem]) rfl ⟨_, rfl, F1, B1⟩
/-- The rule of a kind. -/
def RuV (w : World) (v : Value) (k : Nat) : Prop :=
  (FxV w v (fixL k 0) ∧ k ≠ 13 ∧ k ≠ 14 ∧ k ≠ 19 ∧ k ≠ 25 ∧ k ≠ 20 ∧ k ≠ 21) ∨ (v = .func (.func 27) #[] #[] ∧ (k = 13 ∨ k = 14)) ∨ (v = .func (.func 28) #[] #[] ∧ k = 19) ∨ (v = .func (.func 32) #[] #[] ∧ k = 25)
    ∨ (∃ b, v = .func (.func 52) #[] #[.pointer (some ⟨b, 0, none⟩)] ∧ ((k = 20 ∧ Byn w b 11 callT) ∨ (k = 21 ∧ Byn w b 7 quantT)))
theorem RuV.below {w w' : World} {v : Value} {k : Nat} (h : RuV w v k) (B : Below w.heap.size w w') : RuV w' v k := by
  rcases h with ⟨h, h2⟩ | h | h | h | ⟨b, h, ⟨h1, h2⟩ | ⟨h1, h2⟩⟩
  · exact .inl ⟨h.below B, h2⟩
  · exact .inr (.inl h)
  · exact .inr (.inr (.inl h))
  · exact .inr (.inr (.inr (.inl h)))
  · exact .inr (.inr (.inr (.inr ⟨b, h, .inl ⟨h1, h2.below B⟩⟩)))
  · exact .inr (.inr (.inr (.inr ⟨b, h, .inr ⟨h1, h2.below B⟩⟩)))
/-- The table of all rules. -/
def RuT (w : World) (g : Nat) : Prop := g < w.heap.size ∧ ∀ (k : Nat), 1 ≤ k → k ≤ 25 → k ≠ 5 → ∃ v, w.cell? ⟨g, k, none⟩ = some v ∧ RuV w v k
theorem RuT.below {w w' : World} {g : Nat} (h : RuT w g) (B : Below w.heap.size w w') : RuT w' g := by
  refine ⟨Nat.lt_of_lt_of_le h.1 B.size, fun k h1 h2 h3 => ?_⟩
  obtain ⟨v, h4, h5⟩ := h.2 k h1 h2 h3
  exact ⟨v, (B.cell (p := ⟨g, k, none⟩) h.1).trans h4, h5.below B⟩
set_option maxRecDepth 100000 in
set_option maxHeartbeats 8000000 in
theorem rules_c (w : World) : Calls Tryd.prog 18 #[] w fun e w' => ∃ g, e = .returned (.slice (some ⟨g, 0, none⟩) 26 26) ∧ RuT w' g ∧ Below w.heap.size w w' := by
  go_enter Tryd.func18, Tryd.ntmps18
  go_wp2_with fail
  refine (fixed_n w [1] _ _ rfl).mono ?_
  rintro e w1 ⟨b1, rfl, F1, S1⟩
  go_wp2_with fail
  refine (fixed_n w1 [2] _ _ rfl).mono ?_
  rintro e w2 ⟨b2, rfl, F2, S2⟩
  go_wp2_with fail
  refine (fixed_n w2 [3] _ _ rfl).mono ?_
  rintro e w3 ⟨b3, rfl, F3, S3⟩
  go_wp2_with fail
  refine (fixed_n w3 [3] _ _ rfl).mono ?_
  rintro e w4 ⟨b4, rfl, F4, S4⟩
  go_wp2_with fail
  refine (fixed_n w4 [1, 1] _ _ rfl).mono ?_
  rintro e w5 ⟨b5, rfl, F5, S5⟩
  go_wp2_with fail
  refine (fixed_n w5 [2, 2] _ _ rfl).mono ?_
  rintro e w6 ⟨b6, rfl, F6, S6⟩
  go_wp2_with fail
  refine (fixed_n w6 [1, 1, 1] _ _ rfl).mono ?_
  rintro e w7 ⟨b7, rfl, F7, S7⟩
  go_wp2_with fail
  refine (fixed_n w7 [1, 1, 1] _ _ rfl).mono ?_
  rintro e w8 ⟨b8, rfl, F8, S8⟩
  go_wp2_with fail
  refine (fixed_n w8 [1, 1, 1] _ _ rfl).mono ?_
  rintro e w9 ⟨b9, rfl, F9, S9⟩
  go_wp2_with fail
  refine (fixed_n w9 [1, 1, 1] _ _ rfl).mono ?_
  rintro e w10 ⟨b10, rfl, F10, S10⟩
  go_wp2_with fail
  refine (fixed_n w10 [1, 1, 1] _ _ rfl).mono ?_
  rintro e w11 ⟨b11, rfl, F11, S11⟩
  go_wp2_with fail
  refine (fixed_n w11 [1, 1, 2] _ _ rfl).mono ?_
  rintro e w12 ⟨b12, rfl, F12, S12⟩
  go_wp2_with fail
  refine (fixed_n w12 [1, 1, 2] _ _ rfl).mono ?_
  rintro e w13 ⟨b13, rfl, F13, S13⟩
  go_wp2_with fail
  refine (fixed_n w13 [2, 2, 2] _ _ rfl).mono ?_
  rintro e w14 ⟨b14, rfl, F14, S14⟩
  go_wp2_with fail
  refine (fixed_n w14 [2, 2, 2] _ _ rfl).mono ?_
  rintro e w15 ⟨b15, rfl, F15, S15⟩
  go_wp2_with fail
  refine (calls_c w15).mono ?_
  rintro e w16 ⟨b16, rfl, F16, S16⟩
  go_wp2_with fail
  refine (byNumber_c F16).mono ?_
  rintro e w17 ⟨b17, rfl, F17, S17⟩
  go_wp2_with fail
  refine (quantifiers_c w17).mono ?_
  rintro e w18 ⟨b18, rfl, F18, S18⟩
  go_wp2_with fail
  refine (byNumber_c F18).mono ?_
  rintro e w19 ⟨b19, rfl, F19, S19⟩
  go_wp2_with fail
  refine (fixed_n w19 [4] _ _ rfl).mono ?_
  rintro e w20 ⟨b20, rfl, F20, S20⟩
  go_wp2_with fail
  refine (fixed_n w20 [4] _ _ rfl).mono ?_
  rintro e w21 ⟨b21, rfl, F21, S21⟩
  go_wp2_with fail
  refine (fixed_n w21 [3, 4] _ _ rfl).mono ?_
  rintro e w22 ⟨b22, rfl, F22, S22⟩
  go_wp2
  have E22 : Below w22.heap.size w22 (w22.alloc (.cells #[.nilFunc, .func (.func 51) #[] #[.pointer (some ⟨b1, 0, none⟩)], .func (.func 51) #[] #[.pointer (some ⟨b2, 0, none⟩)], .func (.func 51) #[] #[.pointer (some ⟨b3, 0, none⟩)], .func (.func 51) #[] #[.pointer (some ⟨b4, 0, none⟩)], .nilFunc, .func (.func 51) #[] #[.pointer (some ⟨b5, 0, none⟩)], .func (.func 51) #[] #[.pointer (some ⟨b6, 0, none⟩)], .func (.func 51) #[] #[.pointer (some ⟨b7, 0, none⟩)], .func (.func 51) #[] #[.pointer (some ⟨b8, 0, none⟩)], .func (.func 51) #[] #[.pointer (some ⟨b9, 0, none⟩)], .func (.func 51) #[] #[.pointer (some ⟨b10, 0, none⟩)], .func (.func 51) #[] #[.pointer (some ⟨b11, 0, none⟩)], .func (.func 27) #[] #[], .func (.func 27) #[] #[], .func (.func 51) #[] #[.pointer (some ⟨b12, 0, none⟩)], .func (.func 51) #[] #[.pointer (some ⟨b13, 0, none⟩)], .func (.func 51) #[] #[.pointer (some ⟨b14, 0, none⟩)], .func (.func 51) #[] #[.pointer (some ⟨b15, 0, none⟩)], .func (.func 28) #[] #[], .func (.func 52) #[] #[.pointer (some ⟨b17, 0, none⟩)], .func (.func 52) #[] #[.pointer (some ⟨b19, 0, none⟩)], .func (.func 51) #[] #[.pointer (some ⟨b20, 0, none⟩)], .func (.func 51) #[] #[.pointer (some ⟨b21, 0, none⟩)], .func (.func 51) #[] #[.pointer (some ⟨b22, 0, none⟩)], .func (.func 32) #[] #[]] 57)) := (Below.refl _ w22).alloc (Nat.le_refl _) _
  have E21 := S22.trans (E22.mono S22.size)
  have E20 := S21.trans (E21.mono S21.size)
  have E19 := S20.trans (E20.mono S20.size)
  have E18 := S19.trans (E19.mono S19.size)
  have E17 := S18.trans (E18.mono S18.size)
  have E16 := S17.trans (E17.mono S17.size)
  have E15 := S16.trans (E16.mono S16.size)
  have E14 := S15.trans (E15.mono S15.size)
  have E13 := S14.trans (E14.mono S14.size)
  have E12 := S13.trans (E13.mono S13.size)
  have E11 := S12.trans (E12.mono S12.size)
  have E10 := S11.trans (E11.mono S11.size)
  have E9 := S10.trans (E10.mono S10.size)
  have E8 := S9.trans (E9.mono S9.size)
  have E7 := S8.trans (E8.mono S8.size)
  have E6 := S7.trans (E7.mono S7.size)
  have E5 := S6.trans (E6.mono S6.size)
  have E4 := S5.trans (E5.mono S5.size)
  have E3 := S4.trans (E4.mono S4.size)
  have E2 := S3.trans (E3.mono S3.size)
  have E1 := S2.trans (E2.mono S2.size)
  have E0 := S1.trans (E1.mono S1.size)
  have hb : (w22.alloc (.cells #[.nilFunc, .func (.func 51) #[] #[.pointer (some ⟨b1, 0, none⟩)], .func (.func 51) #[] #[.pointer (some ⟨b2, 0, none⟩)], .func (.func 51) #[] #[.pointer (some ⟨b3, 0, none⟩)], .func (.func 51) #[] #[.pointer (some ⟨b4, 0, none⟩)], .nilFunc, .func (.func 51) #[] #[.pointer (some ⟨b5, 0, none⟩)], .func (.func 51) #[] #[.pointer (some ⟨b6, 0, none⟩)], .func (.func 51) #[] #[.pointer (some ⟨b7, 0, none⟩)], .func (.func 51) #[] #[.pointer (some ⟨b8, 0, none⟩)], .func (.func 51) #[] #[.pointer (some ⟨b9, 0, none⟩)], .func (.func 51) #[] #[.pointer (some ⟨b10, 0, none⟩)], .func (.func 51) #[] #[.pointer (some ⟨b11, 0, none⟩)], .func (.func 27) #[] #[], .func (.func 27) #[] #[], .func (.func 51) #[] #[.pointer (some ⟨b12, 0, none⟩)], .func (.func 51) #[] #[.pointer (some ⟨b13, 0, none⟩)], .func (.func 51) #[] #[.pointer (some ⟨b14, 0, none⟩)], .func (.func 51) #[] #[.pointer (some ⟨b15, 0, none⟩)], .func (.func 28) #[] #[], .func (.func 52) #[] #[.pointer (some ⟨b17, 0, none⟩)], .func (.func 52) #[] #[.pointer (some ⟨b19, 0, none⟩)], .func (.func 51) #[] #[.pointer (some ⟨b20, 0, none⟩)], .func (.func 51) #[] #[.pointer (some ⟨b21, 0, none⟩)], .func (.func 51) #[] #[.pointer (some ⟨b22, 0, none⟩)], .func (.func 32) #[] #[]] 57)).heap[w22.heap.size]? = some (.cells #[.nilFunc, .func (.func 51) #[] #[.pointer (some ⟨b1, 0, none⟩)], .func (.func 51) #[] #[.pointer (some ⟨b2, 0, none⟩)], .func (.func 51) #[] #[.pointer (some ⟨b3, 0, none⟩)], .func (.func 51) #[] #[.pointer (some ⟨b4, 0, none⟩)], .nilFunc, .func (.func 51) #[] #[.pointer (some ⟨b5, 0, none⟩)], .func (.func 51) #[] #[.pointer (some ⟨b6, 0, none⟩)], .func (.func 51) #[] #[.pointer (some ⟨b7, 0, none⟩)], .func (.func 51) #[] #[.pointer (some ⟨b8, 0, none⟩)], .func (.func 51) #[] #[.pointer (some ⟨b9, 0, none⟩)], .func (.func 51) #[] #[.pointer (some ⟨b10, 0, none⟩)], .func (.func 51) #[] #[.pointer (some ⟨b11, 0, none⟩)], .func (.func 27) #[] #[], .func (.func 27) #[] #[], .func (.func 51) #[] #[.pointer (some ⟨b12, 0, none⟩)], .func (.func 51) #[] #[.pointer (some ⟨b13, 0, none⟩)], .func (.func 51) #[] #[.pointer (some ⟨b14, 0, none⟩)], .func (.func 51) #[] #[.pointer (some ⟨b15, 0, none⟩)], .func (.func 28) #[] #[], .func (.func 52) #[] #[.pointer (some ⟨b17, 0, none⟩)], .func (.func 52) #[] #[.pointer (some ⟨b19, 0, none⟩)], .func (.func 51) #[] #[.pointer (some ⟨b20, 0, none⟩)], .func (.func 51) #[] #[.pointer (some ⟨b21, 0, none⟩)], .func (.func 51) #[] #[.pointer (some ⟨b22, 0, none⟩)], .func (.func 32) #[] #[]] 57 (0, 0)) := heap_alloc_new w22 _
  have P : RuT (w22.alloc (.cells #[.nilFunc, .func (.func 51) #[] #[.pointer (some ⟨b1, 0, none⟩)], .func (.func 51) #[] #[.pointer (some ⟨b2, 0, none⟩)], .func (.func 51) #[] #[.pointer (some ⟨b3, 0, none⟩)], .func (.func 51) #[] #[.pointer (some ⟨b4, 0, none⟩)], .nilFunc, .func (.func 51) #[] #[.pointer (some ⟨b5, 0, none⟩)], .func (.func 51) #[] #[.pointer (some ⟨b6, 0, none⟩)], .func (.func 51) #[] #[.pointer (some ⟨b7, 0, none⟩)], .func (.func 51) #[] #[.pointer (some ⟨b8, 0, none⟩)], .func (.func 51) #[] #[.pointer (some ⟨b9, 0, none⟩)], .func (.func 51) #[] #[.pointer (some ⟨b10, 0, none⟩)], .func (.func 51) #[] #[.pointer (some ⟨b11, 0, none⟩)], .func (.func 27) #[] #[], .func (.func 27) #[] #[], .func (.func 51) #[] #[.pointer (some ⟨b12, 0, none⟩)], .func (.func 51) #[] #[.pointer (some ⟨b13, 0, none⟩)], .func (.func 51) #[] #[.pointer (some ⟨b14, 0, none⟩)], .func (.func 51) #[] #[.pointer (some ⟨b15, 0, none⟩)], .func (.func 28) #[] #[], .func (.func 52) #[] #[.pointer (some ⟨b17, 0, none⟩)], .func (.func 52) #[] #[.pointer (some ⟨b19, 0, none⟩)], .func (.func 51) #[] #[.pointer (some ⟨b20, 0, none⟩)], .func (.func 51) #[] #[.pointer (some ⟨b21, 0, none⟩)], .func (.func 51) #[] #[.pointer (some ⟨b22, 0, none⟩)], .func (.func 32) #[] #[]] 57)) w22.heap.size := by
   refine ⟨by simp, ?_⟩
   intro j h1 h2 h3
   match j, h1, h2, h3 with
   | 0, h1, h2, h3 => omega
   | 5, h1, h2, h3 => omega
   | 1, h1, h2, h3 => exact ⟨_, (cell_of_row _ w22.heap.size 1 _ _ (0, 0) hb).trans rfl, .inl ⟨⟨b1, rfl, F1.below E1⟩, by decide⟩⟩
   | 2, h1, h2, h3 => exact ⟨_, (cell_of_row _ w22.heap.size 2 _ _ (0, 0) hb).trans rfl, .inl ⟨⟨b2, rfl, F2.below E2⟩, by decide⟩⟩
   | 3, h1, h2, h3 => exact ⟨_, (cell_of_row _ w22.heap.size 3 _ _ (0, 0) hb).trans rfl, .inl ⟨⟨b3, rfl, F3.below E3⟩, by decide⟩⟩
   | 4, h1, h2, h3 => exact ⟨_, (cell_of_row _ w22.heap.size 4 _ _ (0, 0) hb).trans rfl, .inl ⟨⟨b4, rfl, F4.below E4⟩, by decide⟩⟩
   | 6, h1, h2, h3 => exact ⟨_, (cell_of_row _ w22.heap.size 6 _ _ (0, 0) hb).trans rfl, .inl ⟨⟨b5, rfl, F5.below E5⟩, by decide⟩⟩
   | 7, h1, h2, h3 => exact ⟨_, (cell_of_row _ w22.heap.size 7 _ _ (0, 0) hb).trans rfl, .inl ⟨⟨b6, rfl, F6.below E6⟩, by decide⟩⟩
   | 8, h1, h2, h3 => exact ⟨_, (cell_of_row _ w22.heap.size 8 _ _ (0, 0) hb).trans rfl, .inl ⟨⟨b7, rfl, F7.below E7⟩, by decide⟩⟩
   | 9, h1, h2, h3 => exact ⟨_, (cell_of_row _ w22.heap.size 9 _ _ (0, 0) hb).trans rfl, .inl ⟨⟨b8, rfl, F8.below E8⟩, by decide⟩⟩
   | 10, h1, h2, h3 => exact ⟨_, (cell_of_row _ w22.heap.size 10 _ _ (0, 0) hb).trans rfl, .inl ⟨⟨b9, rfl, F9.below E9⟩, by decide⟩⟩
   | 11, h1, h2, h3 => exact ⟨_, (cell_of_row _ w22.heap.size 11 _ _ (0, 0) hb).trans rfl, .inl ⟨⟨b10, rfl, F10.below E10⟩, by decide⟩⟩
   | 12, h1, h2, h3 => exact ⟨_, (cell_of_row _ w22.heap.size 12 _ _ (0, 0) hb).trans rfl, .inl ⟨⟨b11, rfl, F11.below E11⟩, by decide⟩⟩
   | 13, h1, h2, h3 => exact ⟨_, (cell_of_row _ w22.heap.size 13 _ _ (0, 0) hb).trans rfl, .inr (.inl ⟨rfl, by omega⟩)⟩
   | 14, h1, h2, h3 => exact ⟨_, (cell_of_row _ w22.heap.size 14 _ _ (0, 0) hb).trans rfl, .inr (.inl ⟨rfl, by omega⟩)⟩
   | 15, h1, h2, h3 => exact ⟨_, (cell_of_row _ w22.heap.size 15 _ _ (0, 0) hb).trans rfl, .inl ⟨⟨b12, rfl, F12.below E12⟩, by decide⟩⟩
   | 16, h1, h2, h3 => exact ⟨_, (cell_of_row _ w22.heap.size 16 _ _ (0, 0) hb).trans rfl, .inl ⟨⟨b13, rfl, F13.below E13⟩, by decide⟩⟩
   | 17, h1, h2, h3 => exact ⟨_, (cell_of_row _ w22.heap.size 17 _ _ (0, 0) hb).trans rfl, .inl ⟨⟨b14, rfl, F14.below E14⟩, by decide⟩⟩
   | 18, h1, h2, h3 => exact ⟨_, (cell_of_row _ w22.heap.size 18 _ _ (0, 0) hb).trans rfl, .inl ⟨⟨b15, rfl, F15.below E15⟩, by decide⟩⟩
   | 19, h1, h2, h3 => exact ⟨_, (cell_of_row _ w22.heap.size 19 _ _ (0, 0) hb).trans rfl, .inr (.inr (.inl ⟨rfl, rfl⟩))⟩
   | 20, h1, h2, h3 => exact ⟨_, (cell_of_row _ w22.heap.size 20 _ _ (0, 0) hb).trans rfl, .inr (.inr (.inr (.inr ⟨b17, rfl, .inl ⟨rfl, F17.below E17⟩⟩)))⟩
   | 21, h1, h2, h3 => exact ⟨_, (cell_of_row _ w22.heap.size 21 _ _ (0, 0) hb).trans rfl, .inr (.inr (.inr (.inr ⟨b19, rfl, .inr ⟨rfl, F19.below E19⟩⟩)))⟩
   | 22, h1, h2, h3 => exact ⟨_, (cell_of_row _ w22.heap.size 22 _ _ (0, 0) hb).trans rfl, .inl ⟨⟨b20, rfl, F20.below E20⟩, by decide⟩⟩
   | 23, h1, h2, h3 => exact ⟨_, (cell_of_row _ w22.heap.size 23 _ _ (0, 0) hb).trans rfl, .inl ⟨⟨b21, rfl, F21.below E21⟩, by decide⟩⟩
   | 24, h1, h2, h3 => exact ⟨_, (cell_of_row _ w22.heap.size 24 _ _ (0, 0) hb).trans rfl, .inl ⟨⟨b22, rfl, F22.below E22⟩, by decide⟩⟩
   | 25, h1, h2, h3 => exact ⟨_, (cell_of_row _ w22.heap.size 25 _ _ (0, 0) hb).trans rfl, .inr (.inr (.inr (.inl ⟨rfl, rfl⟩)))⟩
   | j + 26, h1, h2, h3 => omega
  exact bodyPost_ret (v := .slice (some ⟨w22.heap.size, 0, none⟩) 26 26) (by simp [results, Tryd.results18, go_sem]) rfl ⟨w22.heap.size, rfl, P, E0⟩
end Go.Proofs.YtafnlhnenmpfoaaDoor
namespace Go.Proofs.YtafnlhnenmpfoaaDoor
open Go.ChangeShapes Go.WideShapes Go.ChangeAt Go.RowKit
set_option linter.unusedVariables false
set_option linter.unusedSimpArgs false

/-- Names in a slice. -/
def Nms (w : World) (v : Value) (b : List (List UInt8)) : Prop :=
  ∃ ao cap, v = .slice ao b.length cap ∧ b.length ≤ cap ∧ ((b = [] ∧ ao = none) ∨ ∃ g, ao = some ⟨g, 0, none⟩ ∧ g < w.heap.size ∧ 0 < b.length ∧ ∀ (j : Nat) (t : List UInt8), b[j]? = some t → w.cell? ⟨g, j, none⟩ = some (stv t))
theorem Nms.below {w w' : World} {v : Value} {b : List (List UInt8)} (h : Nms w v b) (B : Below w.heap.size w w') : Nms w' v b := by
  obtain ⟨ao, cap, rfl, hc, h1 | ⟨g, h1, h2, h0, h3⟩⟩ := h
  · exact ⟨ao, cap, rfl, hc, .inl h1⟩
  · exact ⟨ao, cap, rfl, hc, .inr ⟨g, h1, Nat.lt_of_lt_of_le h2 B.size, h0, fun j t hj => (B.cell (p := ⟨g, j, none⟩) h2).trans (h3 j t hj)⟩⟩
theorem Nms.nil (w : World) : Nms w (.slice none 0 0) [] := ⟨none, 0, rfl, Nat.le_refl _, .inl ⟨rfl, rfl⟩⟩
theorem infoStrT : (Tryd.prog.info? 9).map (fun i => (i.zero, i.size, i.bytes)) = some (some (.string ⟨#[]⟩), 1, 16) := by kernel_rfl
set_option maxRecDepth 100000 in
theorem indexS {w : World} {v : Value} {b : List (List UInt8)} (h : Nms w v b) (t : List UInt8) (hl : b.length ≤ 100000) :
    Calls Tryd.prog 53 #[v, stv t] w fun e w' => ∃ r : Int, e = .returned (.int .i64 r) ∧ decide (0 ≤ r) = decide (t ∈ b) ∧ -1 ≤ r ∧ r ≤ 100000 ∧ w' = w := by
  obtain ⟨ao, cap, rfl, hcap, hp⟩ := h
  go_enter Tryd.func53, Tryd.ntmps53
  go_wp2
  go_loopw [8] (fun v wr => ∃ k : Nat, k ≤ b.length ∧ v = .int .i64 (k : Nat) ∧ Hid (∀ j, j < k → b[j]? ≠ some t) ∧ wr = w) (fun v _ => b.length - (intOf v).toNat)
  case atStart => exact ⟨0, by omega, by go_num, fun j hj => absurd hj (Nat.not_lt_zero _), rfl⟩
  case round =>
    obtain ⟨k, hk, rfl, hn, rfl⟩ := hrel
    by_cases hlt : k < b.length
    · have hx : b[k]? = some b[k] := List.getElem?_eq_getElem hlt
      rcases hp with ⟨rfl, -⟩ | ⟨g, rfl, hg, -, hcell⟩
      · simp at hlt
      have c1 := hcell k _ hx
      generalize b[k] = x at c1 hx
      have hkI : (k : Int) < (b.length : Int) := by omega
      have HX : Hid (b[k]? = some x) := hx
      clear hx hcell
      by_cases he : t = x
      · subst he
        have hbe : (t == t) = true := by simp
        have FIN : Hid (decide (0 ≤ (k : Int)) = decide (t ∈ b)) := by
          have : t ∈ b := List.mem_of_getElem? HX.out
          show decide _ = decide _
          rw [decide_eq_true (by omega), decide_eq_true this]
        clear hn HX
        go_wp2
        go_ret
        exact ⟨k, rfl, FIN.out, by omega, by omega, rfl⟩
      · have hbe : (t == x) = false := by simpa using he
        have hn2 : Hid (∀ j, j < k + 1 → b[j]? ≠ some t) := by
          intro j hj
          rcases Nat.lt_succ_iff_lt_or_eq.1 hj with h1 | rfl
          · exact hn.out j h1
          · rw [HX.out]
            intro h2
            injection h2 with h2
            exact he h2.symm
        clear hn HX he
        go_wp2
        go_roundw
        case rel => (try ((repeat apply Exists.intro); refine ⟨?_, rfl⟩)); exact ⟨k + 1, by omega, by go_num, hn2, by trivial⟩
        case measure => simp [intOf]; omega
    · obtain rfl : k = b.length := by omega
      have FIN : Hid (decide (0 ≤ (-1 : Int)) = decide (t ∈ b)) := by
        have : ¬ t ∈ b := by
          intro h1
          obtain ⟨j, hj, h2⟩ := List.mem_iff_getElem.1 h1
          exact hn.out j hj (by rw [List.getElem?_eq_getElem hj, h2])
        show decide _ = decide _
        rw [decide_eq_false this]
        rfl
      clear hn hp
      go_wp2
      go_ret
      exact ⟨-1, rfl, FIN.out, by omega, by omega, rfl⟩
theorem containsS {w : World} {v : Value} {b : List (List UInt8)} (h : Nms w v b) (t : List UInt8) (hl : b.length ≤ 100000) :
    Calls Tryd.prog 33 #[v, stv t] w fun e w' => e = .returned (.bool (decide (t ∈ b))) ∧ w' = w := by
  have c1 := indexS h t hl
  obtain ⟨ao, cap, rfl, -, -⟩ := h
  go_enter Tryd.func33, Tryd.ntmps33
  go_wp2_with fail
  refine c1.mono ?_
  rintro x w1 ⟨r, rfl, h1, h2, h3, rfl⟩
  have FIN : Hid (decide (0 ≤ r) = decide (t ∈ b)) := h1
  clear h1 c1
  go_wp2
  go_ret
  exact ⟨by rw [← FIN.out]; rfl, rfl⟩
end Go.Proofs.YtafnlhnenmpfoaaDoor
