/- Names that are bound: slices.Clone, boundIn. -/
import Derived.Test.YtafnlhnenmpfoaaGreatDoorTypP
import Derived.Lib.SliceRun
import Derived.Deep.RegionHeld3
import Derived.Deep.RegionLaw
namespace Go.Proofs.YtafnlhnenmpfoaaGreatDoor
open Go.ChangeShapes Go.WideShapes Go.ChangeAt Go.RowKit
set_option linter.unusedVariables false
set_option linter.unusedSimpArgs false

/-- A box that holds a table of fixed rules. -/
def Byn (w : World) (b n : Nat) (T : List (List Int)) : Prop :=
  b < w.heap.size ∧ ∃ g cap, w.cell? ⟨b, 0, none⟩ = some (.slice (some ⟨g, 0, none⟩) n cap) ∧ FxT w g T
theorem Byn.below {w w' : World} {b n : Nat} {T : List (List Int)} (h : Byn w b n T) (B : Below w.heap.size w w') : Byn w' b n T := by
  obtain ⟨h1, g, cap, h2, h3⟩ := h
  exact ⟨Nat.lt_of_lt_of_le h1 B.size, g, cap, (B.cell h1).trans h2, h3.below B⟩
theorem byNumber_c {w : World} {g n cap : Nat} {T : List (List Int)} (h : FxT w g T) :
    Calls Tryz.prog 54 #[.slice (some ⟨g, 0, none⟩) n cap] w fun e w' => ∃ b, e = .returned (.func (.func 93) #[] #[.pointer (some ⟨b, 0, none⟩)]) ∧ Byn w' b n T ∧ Below w.heap.size w w' := by
  have B1 : Below w.heap.size w (w.alloc (.cells #[.slice (some ⟨g, 0, none⟩) n cap] 56)) := (Below.refl _ w).alloc (Nat.le_refl _) _
  have F1 : Byn (w.alloc (.cells #[.slice (some ⟨g, 0, none⟩) n cap] 56)) w.heap.size n T :=
    ⟨by simp, g, cap, (cell_of_row _ w.heap.size 0 _ _ (0, 0) (heap_alloc_new w _)).trans rfl, h.below B1⟩
  clear h
  go_enter Tryz.func54, Tryz.ntmps54
  go_wp2_with fail
  exact bodyPost_ret (v := .func (.func 93) #[] #[.pointer (some ⟨w.heap.size, 0, none⟩)]) (by simp [results, Tryz.results54, go_sem]) rfl ⟨_, rfl, F1, B1⟩
/-- The rule of a kind. -/
def RuV (w : World) (v : Value) (k : Nat) : Prop :=
  (FxV w v (fixL k 0) ∧ k ≠ 13 ∧ k ≠ 14 ∧ k ≠ 19 ∧ k ≠ 25 ∧ k ≠ 20 ∧ k ≠ 21) ∨ (v = .func (.func 52) #[] #[] ∧ (k = 13 ∨ k = 14)) ∨ (v = .func (.func 53) #[] #[] ∧ k = 19) ∨ (v = .func (.func 57) #[] #[] ∧ k = 25)
    ∨ (∃ b, v = .func (.func 93) #[] #[.pointer (some ⟨b, 0, none⟩)] ∧ ((k = 20 ∧ Byn w b 11 callT) ∨ (k = 21 ∧ Byn w b 7 quantT)))
theorem RuV.below {w w' : World} {v : Value} {k : Nat} (h : RuV w v k) (B : Below w.heap.size w w') : RuV w' v k := by
  rcases h with ⟨h, h2⟩ | h | h | h | ⟨b, h, ⟨h1, h2⟩ | ⟨h1, h2⟩⟩
  · exact .inl ⟨h.below B, h2⟩
  · exact .inr (.inl h)
  · exact .inr (.inr (.inl h))
  · exact .inr (.inr (.inr (.inl h)))
  · exact .inr (.inr (.inr (.inr ⟨b, h, .inl ⟨h1, h2.below B⟩⟩)))
  · exact .inr (.inr (.inr (.inr ⟨b, h, .inr ⟨h1, h2.below B⟩⟩)))
/-- The table of all rules. -/
def RuT (w : World) (g : Nat) : Prop := g < w.heap.size ∧ ∀ (k : Nat), 1 ≤ k → k ≤ 25 → k ≠ 5 → ∃ v, w.cell? ⟨g, k, none⟩ = some v ∧ RuV w v k
theorem RuT.below {w w' : World} {g : Nat} (h : RuT w g) (B : Below w.heap.size w w') : RuT w' g := by
  refine ⟨Nat.lt_of_lt_of_le h.1 B.size, fun k h1 h2 h3 => ?_⟩
  obtain ⟨v, h4, h5⟩ := h.2 k h1 h2 h3
  exact ⟨v, (B.cell (p := ⟨g, k, none⟩) h.1).trans h4, h5.below B⟩
set_option maxRecDepth 100000 in
set_option maxHeartbeats 8000000 in
theorem rules_c (w : World) : Calls Tryz.prog 29 #[] w fun e w' => ∃ g, e = .returned (.slice (some ⟨g, 0, none⟩) 26 26) ∧ RuT w' g ∧ Below w.heap.size w w' := by
  go_enter Tryz.func29, Tryz.ntmps29
  go_wp2_with fail
  refine (fixed_n w [1] _ _ rfl).mono ?_
  rintro e w1 ⟨b1, rfl, F1, S1⟩
  go_wp2_with fail
  refine (fixed_n w1 [2] _ _ rfl).mono ?_
  rintro e w2 ⟨b2, rfl, F2, S2⟩
  go_wp2_with fail
  refine (fixed_n w2 [3] _ _ rfl).mono ?_
  rintro e w3 ⟨b3, rfl, F3, S3⟩
  go_wp2_with fail
  refine (fixed_n w3 [3] _ _ rfl).mono ?_
  rintro e w4 ⟨b4, rfl, F4, S4⟩
  go_wp2_with fail
  refine (fixed_n w4 [1, 1] _ _ rfl).mono ?_
  rintro e w5 ⟨b5, rfl, F5, S5⟩
  go_wp2_with fail
  refine (fixed_n w5 [2, 2] _ _ rfl).mono ?_
  rintro e w6 ⟨b6, rfl, F6, S6⟩
  go_wp2_with fail
  refine (fixed_n w6 [1, 1, 1] _ _ rfl).mono ?_
  rintro e w7 ⟨b7, rfl, F7, S7⟩
  go_wp2_with fail
  refine (fixed_n w7 [1, 1, 1] _ _ rfl).mono ?_
  rintro e w8 ⟨b8, rfl, F8, S8⟩
  go_wp2_with fail
  refine (fixed_n w8 [1, 1, 1] _ _ rfl).mono ?_
  rintro e w9 ⟨b9, rfl, F9, S9⟩
  go_wp2_with fail
  refine (fixed_n w9 [1, 1, 1] _ _ rfl).mono ?_
  rintro e w10 ⟨b10, rfl, F10, S10⟩
  go_wp2_with fail
  refine (fixed_n w10 [1, 1, 1] _ _ rfl).mono ?_
  rintro e w11 ⟨b11, rfl, F11, S11⟩
  go_wp2_with fail
  refine (fixed_n w11 [1, 1, 2] _ _ rfl).mono ?_
  rintro e w12 ⟨b12, rfl, F12, S12⟩
  go_wp2_with fail
  refine (fixed_n w12 [1, 1, 2] _ _ rfl).mono ?_
  rintro e w13 ⟨b13, rfl, F13, S13⟩
  go_wp2_with fail
  refine (fixed_n w13 [2, 2, 2] _ _ rfl).mono ?_
  rintro e w14 ⟨b14, rfl, F14, S14⟩
  go_wp2_with fail
  refine (fixed_n w14 [2, 2, 2] _ _ rfl).mono ?_
  rintro e w15 ⟨b15, rfl, F15, S15⟩
  go_wp2_with fail
  refine (calls_c w15).mono ?_
  rintro e w16 ⟨b16, rfl, F16, S16⟩
  go_wp2_with fail
  refine (byNumber_c F16).mono ?_
  rintro e w17 ⟨b17, rfl, F17, S17⟩
  go_wp2_with fail
  refine (quantifiers_c w17).mono ?_
  rintro e w18 ⟨b18, rfl, F18, S18⟩
  go_wp2_with fail
  refine (byNumber_c F18).mono ?_
  rintro e w19 ⟨b19, rfl, F19, S19⟩
  go_wp2_with fail
  refine (fixed_n w19 [4] _ _ rfl).mono ?_
  rintro e w20 ⟨b20, rfl, F20, S20⟩
  go_wp2_with fail
  refine (fixed_n w20 [4] _ _ rfl).mono ?_
  rintro e w21 ⟨b21, rfl, F21, S21⟩
  go_wp2_with fail
  refine (fixed_n w21 [3, 4] _ _ rfl).mono ?_
  rintro e w22 ⟨b22, rfl, F22, S22⟩
  go_wp2
  have E22 : Below w22.heap.size w22 (w22.alloc (.cells #[.nilFunc, .func (.func 92) #[] #[.pointer (some ⟨b1, 0, none⟩)], .func (.func 92) #[] #[.pointer (some ⟨b2, 0, none⟩)], .func (.func 92) #[] #[.pointer (some ⟨b3, 0, none⟩)], .func (.func 92) #[] #[.pointer (some ⟨b4, 0, none⟩)], .nilFunc, .func (.func 92) #[] #[.pointer (some ⟨b5, 0, none⟩)], .func (.func 92) #[] #[.pointer (some ⟨b6, 0, none⟩)], .func (.func 92) #[] #[.pointer (some ⟨b7, 0, none⟩)], .func (.func 92) #[] #[.pointer (some ⟨b8, 0, none⟩)], .func (.func 92) #[] #[.pointer (some ⟨b9, 0, none⟩)], .func (.func 92) #[] #[.pointer (some ⟨b10, 0, none⟩)], .func (.func 92) #[] #[.pointer (some ⟨b11, 0, none⟩)], .func (.func 52) #[] #[], .func (.func 52) #[] #[], .func (.func 92) #[] #[.pointer (some ⟨b12, 0, none⟩)], .func (.func 92) #[] #[.pointer (some ⟨b13, 0, none⟩)], .func (.func 92) #[] #[.pointer (some ⟨b14, 0, none⟩)], .func (.func 92) #[] #[.pointer (some ⟨b15, 0, none⟩)], .func (.func 53) #[] #[], .func (.func 93) #[] #[.pointer (some ⟨b17, 0, none⟩)], .func (.func 93) #[] #[.pointer (some ⟨b19, 0, none⟩)], .func (.func 92) #[] #[.pointer (some ⟨b20, 0, none⟩)], .func (.func 92) #[] #[.pointer (some ⟨b21, 0, none⟩)], .func (.func 92) #[] #[.pointer (some ⟨b22, 0, none⟩)], .func (.func 57) #[] #[]] 93)) := (Below.refl _ w22).alloc (Nat.le_refl _) _
  have E21 := S22.trans (E22.mono S22.size)
  have E20 := S21.trans (E21.mono S21.size)
  have E19 := S20.trans (E20.mono S20.size)
  have E18 := S19.trans (E19.mono S19.size)
  have E17 := S18.trans (E18.mono S18.size)
  have E16 := S17.trans (E17.mono S17.size)
  have E15 := S16.trans (E16.mono S16.size)
  have E14 := S15.trans (E15.mono S15.size)
  have E13 := S14.trans (E14.mono S14.size)
  have E12 := S13.trans (E13.mono S13.size)
  have E11 := S12.trans (E12.mono S12.size)
  have E10 := S11.trans (E11.mono S11.size)
  have E9 := S10.trans (E10.mono S10.size)
  have E8 := S9.trans (E9.mono S9.size)
  have E7 := S8.trans (E8.mono S8.size)
  have E6 := S7.trans (E7.mono S7.size)
  have E5 := S6.trans (E6.mono S6.size)
  have E4 := S5.trans (E5.mono S5.size)
  have E3 := S4.trans (E4.mono S4.size)
  have E2 := S3.trans (E3.mono S3.size)
  have E1 := S2.trans (E2.mono S2.size)
  have E0 := S1.trans (E1.mono S1.size)
  have hb : (w22.alloc (.cells #[.nilFunc, .func (.func 92) #[] #[.pointer (some ⟨b1, 0, none⟩)], .func (.func 92) #[] #[.pointer (some ⟨b2, 0, none⟩)], .func (.func 92) #[] #[.pointer (some ⟨b3, 0, none⟩)], .func (.func 92) #[] #[.pointer (some ⟨b4, 0, none⟩)], .nilFunc, .func (.func 92) #[] #[.pointer (some ⟨b5, 0, none⟩)], .func (.func 92) #[] #[.pointer (some ⟨b6, 0, none⟩)], .func (.func 92) #[] #[.pointer (some ⟨b7, 0, none⟩)], .func (.func 92) #[] #[.pointer (some ⟨b8, 0, none⟩)], .func (.func 92) #[] #[.pointer (some ⟨b9, 0, none⟩)], .func (.func 92) #[] #[.pointer (some ⟨b10, 0, none⟩)], .func (.func 92) #[] #[.pointer (some ⟨b11, 0, none⟩)], .func (.func 52) #[] #[], .func (.func 52) #[] #[], .func (.func 92) #[] #[.pointer (some ⟨b12, 0, none⟩)], .func (.func 92) #[] #[.pointer (some ⟨b13, 0, none⟩)], .func (.func 92) #[] #[.pointer (some ⟨b14, 0, none⟩)], .func (.func 92) #[] #[.pointer (some ⟨b15, 0, none⟩)], .func (.func 53) #[] #[], .func (.func 93) #[] #[.pointer (some ⟨b17, 0, none⟩)], .func (.func 93) #[] #[.pointer (some ⟨b19, 0, none⟩)], .func (.func 92) #[] #[.pointer (some ⟨b20, 0, none⟩)], .func (.func 92) #[] #[.pointer (some ⟨b21, 0, none⟩)], .func (.func 92) #[] #[.pointer (some ⟨b22, 0, none⟩)], .func (.func 57) #[] #[]] 93)).heap[w22.heap.size]? = some (.cells #[.nilFunc, .func (.func 92) #[] #[.pointer (some ⟨b1, 0, none⟩)], .func (.func 92) #[] #[.pointer (some ⟨b2, 0, none⟩)], .func (.func 92) #[] #[.pointer (some ⟨b3, 0, none⟩)], .func (.func 92) #[] #[.pointer (some ⟨b4, 0, none⟩)], .nilFunc, .func (.func 92) #[] #[.pointer (some ⟨b5, 0, none⟩)], .func (.func 92) #[] #[.pointer (some ⟨b6, 0, none⟩)], .func (.func 92) #[] #[.pointer (some ⟨b7, 0, none⟩)], .func (.func 92) #[] #[.pointer (some ⟨b8, 0, none⟩)], .func (.func 92) #[] #[.pointer (some ⟨b9, 0, none⟩)], .func (.func 92) #[] #[.pointer (some ⟨b10, 0, none⟩)], .func (.func 92) #[] #[.pointer (some ⟨b11, 0, none⟩)], .func (.func 52) #[] #[], .func (.func 52) #[] #[], .func (.func 92) #[] #[.pointer (some ⟨b12, 0, none⟩)], .func (.func 92) #[] #[.pointer (some ⟨b13, 0, none⟩)], .func (.func 92) #[] #[.pointer (some ⟨b14, 0, none⟩)], .func (.func 92) #[] #[.pointer (some ⟨b15, 0, none⟩)], .func (.func 53) #[] #[], .func (.func 93) #[] #[.pointer (some ⟨b17, 0, none⟩)], .func (.func 93) #[] #[.pointer (some ⟨b19, 0, none⟩)], .func (.func 92) #[] #[.pointer (some ⟨b20, 0, none⟩)], .func (.func 92) #[] #[.pointer (some ⟨b21, 0, none⟩)], .func (.func 92) #[] #[.pointer (some ⟨b22, 0, none⟩)], .func (.func 57) #[] #[]] 93 (0, 0)) := heap_alloc_new w22 _
  have P : RuT (w22.alloc (.cells #[.nilFunc, .func (.func 92) #[] #[.pointer (some ⟨b1, 0, none⟩)], .func (.func 92) #[] #[.pointer (some ⟨b2, 0, none⟩)], .func (.func 92) #[] #[.pointer (some ⟨b3, 0, none⟩)], .func (.func 92) #[] #[.pointer (some ⟨b4, 0, none⟩)], .nilFunc, .func (.func 92) #[] #[.pointer (some ⟨b5, 0, none⟩)], .func (.func 92) #[] #[.pointer (some ⟨b6, 0, none⟩)], .func (.func 92) #[] #[.pointer (some ⟨b7, 0, none⟩)], .func (.func 92) #[] #[.pointer (some ⟨b8, 0, none⟩)], .func (.func 92) #[] #[.pointer (some ⟨b9, 0, none⟩)], .func (.func 92) #[] #[.pointer (some ⟨b10, 0, none⟩)], .func (.func 92) #[] #[.pointer (some ⟨b11, 0, none⟩)], .func (.func 52) #[] #[], .func (.func 52) #[] #[], .func (.func 92) #[] #[.pointer (some ⟨b12, 0, none⟩)], .func (.func 92) #[] #[.pointer (some ⟨b13, 0, none⟩)], .func (.func 92) #[] #[.pointer (some ⟨b14, 0, none⟩)], .func (.func 92) #[] #[.pointer (some ⟨b15, 0, none⟩)], .func (.func 53) #[] #[], .func (.func 93) #[] #[.pointer (some ⟨b17, 0, none⟩)], .func (.func 93) #[] #[.pointer (some ⟨b19, 0, none⟩)], .func (.func 92) #[] #[.pointer (some ⟨b20, 0, none⟩)], .func (.func 92) #[] #[.pointer (some ⟨b21, 0, none⟩)], .func (.func 92) #[] #[.pointer (some ⟨b22, 0, none⟩)], .func (.func 57) #[] #[]] 93)) w22.heap.size := by
   refine ⟨by simp, ?_⟩
   intro j h1 h2 h3
   match j, h1, h2, h3 with
   | 0, h1, h2, h3 => omega
   | 5, h1, h2, h3 => omega
   | 1, h1, h2, h3 => exact ⟨_, (cell_of_row _ w22.heap.size 1 _ _ (0, 0) hb).trans rfl, .inl ⟨⟨b1, rfl, F1.below E1⟩, by decide⟩⟩
   | 2, h1, h2, h3 => exact ⟨_, (cell_of_row _ w22.heap.size 2 _ _ (0, 0) hb).trans rfl, .inl ⟨⟨b2, rfl, F2.below E2⟩, by decide⟩⟩
   | 3, h1, h2, h3 => exact ⟨_, (cell_of_row _ w22.heap.size 3 _ _ (0, 0) hb).trans rfl, .inl ⟨⟨b3, rfl, F3.below E3⟩, by decide⟩⟩
   | 4, h1, h2, h3 => exact ⟨_, (cell_of_row _ w22.heap.size 4 _ _ (0, 0) hb).trans rfl, .inl ⟨⟨b4, rfl, F4.below E4⟩, by decide⟩⟩
   | 6, h1, h2, h3 => exact ⟨_, (cell_of_row _ w22.heap.size 6 _ _ (0, 0) hb).trans rfl, .inl ⟨⟨b5, rfl, F5.below E5⟩, by decide⟩⟩
   | 7, h1, h2, h3 => exact ⟨_, (cell_of_row _ w22.heap.size 7 _ _ (0, 0) hb).trans rfl, .inl ⟨⟨b6, rfl, F6.below E6⟩, by decide⟩⟩
   | 8, h1, h2, h3 => exact ⟨_, (cell_of_row _ w22.heap.size 8 _ _ (0, 0) hb).trans rfl, .inl ⟨⟨b7, rfl, F7.below E7⟩, by decide⟩⟩
   | 9, h1, h2, h3 => exact ⟨_, (cell_of_row _ w22.heap.size 9 _ _ (0, 0) hb).trans rfl, .inl ⟨⟨b8, rfl, F8.below E8⟩, by decide⟩⟩
   | 10, h1, h2, h3 => exact ⟨_, (cell_of_row _ w22.heap.size 10 _ _ (0, 0) hb).trans rfl, .inl ⟨⟨b9, rfl, F9.below E9⟩, by decide⟩⟩
   | 11, h1, h2, h3 => exact ⟨_, (cell_of_row _ w22.heap.size 11 _ _ (0, 0) hb).trans rfl, .inl ⟨⟨b10, rfl, F10.below E10⟩, by decide⟩⟩
   | 12, h1, h2, h3 => exact ⟨_, (cell_of_row _ w22.heap.size 12 _ _ (0, 0) hb).trans rfl, .inl ⟨⟨b11, rfl, F11.below E11⟩, by decide⟩⟩
   | 13, h1, h2, h3 => exact ⟨_, (cell_of_row _ w22.heap.size 13 _ _ (0, 0) hb).trans rfl, .inr (.inl ⟨rfl, by omega⟩)⟩
   | 14, h1, h2, h3 => exact ⟨_, (cell_of_row _ w22.heap.size 14 _ _ (0, 0) hb).trans rfl, .inr (.inl ⟨rfl, by omega⟩)⟩
   | 15, h1, h2, h3 => exact ⟨_, (cell_of_row _ w22.heap.size 15 _ _ (0, 0) hb).trans rfl, .inl ⟨⟨b12, rfl, F12.below E12⟩, by decide⟩⟩
   | 16, h1, h2, h3 => exact ⟨_, (cell_of_row _ w22.heap.size 16 _ _ (0, 0) hb).trans rfl, .inl ⟨⟨b13, rfl, F13.below E13⟩, by decide⟩⟩
   | 17, h1, h2, h3 => exact ⟨_, (cell_of_row _ w22.heap.size 17 _ _ (0, 0) hb).trans rfl, .inl ⟨⟨b14, rfl, F14.below E14⟩, by decide⟩⟩
   | 18, h1, h2, h3 => exact ⟨_, (cell_of_row _ w22.heap.size 18 _ _ (0, 0) hb).trans rfl, .inl ⟨⟨b15, rfl, F15.below E15⟩, by decide⟩⟩
   | 19, h1, h2, h3 => exact ⟨_, (cell_of_row _ w22.heap.size 19 _ _ (0, 0) hb).trans rfl, .inr (.inr (.inl ⟨rfl, rfl⟩))⟩
   | 20, h1, h2, h3 => exact ⟨_, (cell_of_row _ w22.heap.size 20 _ _ (0, 0) hb).trans rfl, .inr (.inr (.inr (.inr ⟨b17, rfl, .inl ⟨rfl, F17.below E17⟩⟩)))⟩
   | 21, h1, h2, h3 => exact ⟨_, (cell_of_row _ w22.heap.size 21 _ _ (0, 0) hb).trans rfl, .inr (.inr (.inr (.inr ⟨b19, rfl, .inr ⟨rfl, F19.below E19⟩⟩)))⟩
   | 22, h1, h2, h3 => exact ⟨_, (cell_of_row _ w22.heap.size 22 _ _ (0, 0) hb).trans rfl, .inl ⟨⟨b20, rfl, F20.below E20⟩, by decide⟩⟩
   | 23, h1, h2, h3 => exact ⟨_, (cell_of_row _ w22.heap.size 23 _ _ (0, 0) hb).trans rfl, .inl ⟨⟨b21, rfl, F21.below E21⟩, by decide⟩⟩
   | 24, h1, h2, h3 => exact ⟨_, (cell_of_row _ w22.heap.size 24 _ _ (0, 0) hb).trans rfl, .inl ⟨⟨b22, rfl, F22.below E22⟩, by decide⟩⟩
   | 25, h1, h2, h3 => exact ⟨_, (cell_of_row _ w22.heap.size 25 _ _ (0, 0) hb).trans rfl, .inr (.inr (.inr (.inl ⟨rfl, rfl⟩)))⟩
   | j + 26, h1, h2, h3 => omega
  exact bodyPost_ret (v := .slice (some ⟨w22.heap.size, 0, none⟩) 26 26) (by simp [results, Tryz.results29, go_sem]) rfl ⟨w22.heap.size, rfl, P, E0⟩
end Go.Proofs.YtafnlhnenmpfoaaGreatDoor
namespace Go.Proofs.YtafnlhnenmpfoaaGreatDoor
open Go.ChangeShapes Go.WideShapes Go.ChangeAt Go.RowKit
set_option linter.unusedVariables false
set_option linter.unusedSimpArgs false

/-- Names in a slice. -/
def Nms (w : World) (v : Value) (b : List (List UInt8)) : Prop :=
  ∃ ao cap, v = .slice ao b.length cap ∧ b.length ≤ cap ∧ ((b = [] ∧ ao = none) ∨ ∃ g, ao = some ⟨g, 0, none⟩ ∧ g < w.heap.size ∧ 0 < b.length ∧ ∀ (j : Nat) (t : List UInt8), b[j]? = some t → w.cell? ⟨g, j, none⟩ = some (stv t))
theorem Nms.below {w w' : World} {v : Value} {b : List (List UInt8)} (h : Nms w v b) (B : Below w.heap.size w w') : Nms w' v b := by
  obtain ⟨ao, cap, rfl, hc, h1 | ⟨g, h1, h2, h0, h3⟩⟩ := h
  · exact ⟨ao, cap, rfl, hc, .inl h1⟩
  · exact ⟨ao, cap, rfl, hc, .inr ⟨g, h1, Nat.lt_of_lt_of_le h2 B.size, h0, fun j t hj => (B.cell (p := ⟨g, j, none⟩) h2).trans (h3 j t hj)⟩⟩
theorem Nms.nil (w : World) : Nms w (.slice none 0 0) [] := ⟨none, 0, rfl, Nat.le_refl _, .inl ⟨rfl, rfl⟩⟩
theorem infoStrT : (Tryz.prog.info? 9).map (fun i => (i.zero, i.size, i.bytes)) = some (some (.string ⟨#[]⟩), 1, 16) := by kernel_rfl
set_option maxRecDepth 100000 in
theorem indexS {w : World} {v : Value} {b : List (List UInt8)} (h : Nms w v b) (t : List UInt8) (hl : b.length ≤ 100000) :
    Calls Tryz.prog 94 #[v, stv t] w fun e w' => ∃ r : Int, e = .returned (.int .i64 r) ∧ decide (0 ≤ r) = decide (t ∈ b) ∧ -1 ≤ r ∧ r ≤ 100000 ∧ w' = w := by
  obtain ⟨ao, cap, rfl, hcap, hp⟩ := h
  go_enter Tryz.func94, Tryz.ntmps94
  go_wp2
  go_loopw [8] (fun v wr => ∃ k : Nat, k ≤ b.length ∧ v = .int .i64 (k : Nat) ∧ Hid (∀ j, j < k → b[j]? ≠ some t) ∧ wr = w) (fun v _ => b.length - (intOf v).toNat)
  case atStart => exact ⟨0, by omega, by go_num, fun j hj => absurd hj (Nat.not_lt_zero _), rfl⟩
  case round =>
    obtain ⟨k, hk, rfl, hn, rfl⟩ := hrel
    by_cases hlt : k < b.length
    · have hx : b[k]? = some b[k] := List.getElem?_eq_getElem hlt
      rcases hp with ⟨rfl, -⟩ | ⟨g, rfl, hg, -, hcell⟩
      · simp at hlt
      have c1 := hcell k _ hx
      generalize b[k] = x at c1 hx
      have hkI : (k : Int) < (b.length : Int) := by omega
      have HX : Hid (b[k]? = some x) := hx
      clear hx hcell
      by_cases he : t = x
      · subst he
        have hbe : (t == t) = true := by simp
        have FIN : Hid (decide (0 ≤ (k : Int)) = decide (t ∈ b)) := by
          have : t ∈ b := List.mem_of_getElem? HX.out
          show decide _ = decide _
          rw [decide_eq_true (by omega), decide_eq_true this]
        clear hn HX
        go_wp2
        go_ret
        exact ⟨k, rfl, FIN.out, by omega, by omega, rfl⟩
      · have hbe : (t == x) = false := by simpa using he
        have hn2 : Hid (∀ j, j < k + 1 → b[j]? ≠ some t) := by
          intro j hj
          rcases Nat.lt_succ_iff_lt_or_eq.1 hj with h1 | rfl
          · exact hn.out j h1
          · rw [HX.out]
            intro h2
            injection h2 with h2
            exact he h2.symm
        clear hn HX he
        go_wp2
        go_roundw
        case rel => (try ((repeat apply Exists.intro); refine ⟨?_, rfl⟩)); exact ⟨k + 1, by omega, by go_num, hn2, by trivial⟩
        case measure => simp [intOf]; omega
    · obtain rfl : k = b.length := by omega
      have FIN : Hid (decide (0 ≤ (-1 : Int)) = decide (t ∈ b)) := by
        have : ¬ t ∈ b := by
          intro h1
          obtain ⟨j, hj, h2⟩ := List.mem_iff_getElem.1 h1
          exact hn.out j hj (by rw [List.getElem?_eq_getElem hj, h2])
        show decide _ = decide _
        rw [decide_eq_false this]
        rfl
      clear hn hp
      go_wp2
      go_ret
      exact ⟨-1, rfl, FIN.out, by omega, by omega, rfl⟩
theorem containsS {w : World} {v : Value} {b : List (List UInt8)} (h : Nms w v b) (t : List UInt8) (hl : b.length ≤ 100000) :
    Calls Tryz.prog 58 #[v, stv t] w fun e w' => e = .returned (.bool (decide (t ∈ b))) ∧ w' = w := by
  have c1 := indexS h t hl
  obtain ⟨ao, cap, rfl, -, -⟩ := h
  go_enter Tryz.func58, Tryz.ntmps58
  go_wp2_with fail
  refine c1.mono ?_
  rintro x w1 ⟨r, rfl, h1, h2, h3, rfl⟩
  have FIN : Hid (decide (0 ≤ r) = decide (t ∈ b)) := h1
  clear h1 c1
  go_wp2
  go_ret
  exact ⟨by rw [← FIN.out]; rfl, rfl⟩
end Go.Proofs.YtafnlhnenmpfoaaGreatDoor
namespace Go.Proofs.YtafnlhnenmpfoaaGreatDoor
open Go.ChangeShapes Go.WideShapes Go.ChangeAt Go.RowKit
set_option linter.unusedVariables false
set_option linter.unusedSimpArgs false

theorem Row.madeS {w : World} {o : Nat → Nat} {i n : Nat} {e : TypeId} {size : Nat} {X : Array Value} {xs : List Value} (h : X.toList = xs) (hs : X.size = n * size) (hm : n ≤ maxLen) : Row (w.alloc (.cells X e)) (newLab w o i) i e size (.slice (some ⟨w.heap.size, 0, none⟩) n n) n xs := by
  subst h
  refine ⟨World.ownsRow_lit w _ n (Nat.zero_le _) hm hs, fun k hk => ?_⟩
  simp [Value.ownBlock] at hk
  subst hk
  exact newLab_new (Nat.le_refl _)
theorem below_stepT {I : Nat → Prop} {n0 : Nat} {a w w' : World} {o o' : Nat → Nat} (b : Below n0 a w) (s : Step I w o w' o') (h : ∀ k, k < n0 → ¬ I (o k)) (hn : n0 ≤ a.heap.size) : Below n0 a w' :=
  ⟨s.os.trans b.os, s.tape.trans b.tape, s.output.trans b.output, Nat.le_trans b.size s.size, fun k hk => (s.block k (by have := b.size; omega) (h k hk)).trans (b.block k hk)⟩
abbrev I1n : Nat → Prop := fun k => k = 1
set_option maxRecDepth 100000 in
theorem cloneS {w : World} {v : Value} {b : List (List UInt8)} (h : Nms w v b) (o : Nat → Nat) (hl : b.length ≤ 100000) :
    Calls Tryz.prog 95 #[v] w fun e w' => ∃ ao cap o', e = .returned (.slice ao b.length cap) ∧ Row w' o' 1 9 1 (.slice ao b.length cap) b.length (b.map fun x => stv x) ∧ Step I1n w o w' o' := by
  obtain ⟨ii, hii, hzi0, hzi1, hzi2⟩ := info_parts infoStrT
  have hnil : ∀ (W : World) (a : Option Addr) (n c : Nat), (binOp .eql 52 (.slice a n c) (.slice none 0 0)).run Tryz.prog W = .ok (.bool a.isNone) W := fun W a n c => Lib.run_eql_slice_nil W _ _ a n c 0 0 Tryz.underlying52
  obtain ⟨ao, cap, rfl, hcap, hp⟩ := h
  rcases hp with ⟨rfl, rfl⟩ | ⟨g, rfl, hg, hpos, hcell⟩
  · go_enter Tryz.func95, Tryz.ntmps95
    go_wp2
    go_ret
    exact ⟨none, 0, o, rfl, Row.nil _ _ _ _ _, Step.refl _ _ _⟩
  · have s0 := newStep (fun _ => False) w o 1 (.cells #[] 9)
    have R0 : Row (w.alloc (.cells #[] 9)) (newLab w o 1) 1 9 1 (.slice (some ⟨w.heap.size, 0, none⟩) 0 0) 0 [] := Row.madeS (X := #[]) rfl rfl (by unfold maxLen; omega)
    have hnews : ∀ j u, (b.map fun x => stv x)[j]? = some u → (w.alloc (.cells #[] 9)).cell? ((⟨g, 0, none⟩ : Addr).add j) = some u := fun j u hj => by
      rw [List.getElem?_map] at hj
      cases hb : b[j]? with
      | none => rw [hb] at hj; cases hj
      | some t =>
        rw [hb] at hj
        injection hj with hj
        subst hj
        have h2 : (w.alloc (.cells #[] 9)).cell? ⟨g, j, none⟩ = w.cell? ⟨g, j, none⟩ := World.cell?_of_block (w := w) (a := ⟨g, j, none⟩) (s0.block g hg (fun h => h))
        have h3 : ((⟨g, 0, none⟩ : Addr).add j) = ⟨g, j, none⟩ := by simp [Addr.add]; exact Eq.symm
        rw [h3, h2]
        exact hcell j t hb
    have hone : ∀ u ∈ (b.map fun x => stv x), u.oneCell' = true := fun u hu => by
      obtain ⟨x, _, rfl⟩ := List.mem_map.1 hu; rfl
    clear hcell
    have hlen : (b.map fun x => stv x).length = b.length := List.length_map _
    generalize (b.map fun x => stv x) = xs at *
    go_enter Tryz.func95, Tryz.ntmps95
    go_wp2_with (first | (at_builtin; refine wpList_append_lab rfl (.tmp 5) (.tmp 6) 52 rfl 9 ii (.string ⟨#[]⟩) 1 16 Tryz.underlying52 hii hzi0 hzi1 hzi2 rfl (by decide) _ 1 _ 0 [] rfl R0 ⟨g, 0, none⟩ b.length cap xs rfl ?c1 hnews hone (by omega) ?c3 ?c4 ?_) | go_in)
    case c1 => rw [hlen]; omega
    case c3 => unfold maxLen; omega
    case c4 => omega
    intro g7 c7 w7 o7 r7 s7
    have HS : Hid (Step I1n w o w7 o7 ∧ Row w7 o7 1 9 1 (.slice (some ⟨g7, 0, none⟩) b.length c7) b.length xs) := by
      refine ⟨(s0.mono fun _ h => h.elim).trans s7, ?_⟩
      simpa using r7
    clear s7 r7 s0 R0 hnews hone
    go_wp2
    go_ret
    exact ⟨some ⟨g7, 0, none⟩, c7, o7, by simp, HS.out.2, HS.out.1⟩
/-- The names that are bound in a kid. -/
def bndI (k : Int) (nm : List UInt8) (i : Nat) (b : List (List UInt8)) : List (List UInt8) := if k = 21 ∧ i ≠ 0 then b ++ [nm] else b
theorem Nms.ofRow {w : World} {o : Nat → Nat} {g cap : Nat} {b : List (List UInt8)} {n : Nat} (h : Row w o 1 9 1 (.slice (some ⟨g, 0, none⟩) n cap) n (b.map fun x => stv x)) (hn : b.length = n) (h0 : 0 < n) : Nms w (.slice (some ⟨g, 0, none⟩) n cap) b := by
  subst hn
  obtain ⟨g', cap', e1, _, h2, _, h4, h5, _⟩ := h.pos h0
  injection e1 with e1 e2 e3
  injection e1 with e1
  injection e1 with e1
  subst e1
  subst e3
  refine ⟨_, _, rfl, h2, .inr ⟨g, rfl, h4, h0, fun j t hj => ?_⟩⟩
  have hj2 : j < b.length := (List.getElem?_eq_some_iff.1 hj).1
  rw [h5 j (by omega), List.getElem?_map, hj]
  rfl
theorem new_one_step {I : Nat → Prop} {w w1 : World} {o o1 : Nat → Nat} {x : Value} {t : TypeId} (s : Step I (w.alloc (.cells #[x] t)).drew o w1 o1) (h : ¬ I (o w.heap.size)) : ∀ j u, [x][j]? = some u → w1.cell? ((⟨w.heap.size, 0, none⟩ : Addr).add j) = some u := by
  intro j u hj
  have h3 : ((⟨w.heap.size, 0, none⟩ : Addr).add j) = ⟨w.heap.size, j, none⟩ := by simp [Addr.add]; exact Eq.symm
  have h4 := new_one w x t j u hj
  rw [h3] at h4 ⊢
  exact (World.cell?_of_block (w := (w.alloc (.cells #[x] t)).drew) (a := ⟨w.heap.size, j, none⟩) (s.block w.heap.size (by simp) h)).trans h4
set_option maxRecDepth 100000 in
theorem boundIn_c (e : Ex) (ao : Option Addr) (cap i : Nat) (bv : Value) (b : List (List UInt8)) (w : World) (h : Nms w bv b) (hl : b.length ≤ 10000) :
    Calls Tryz.prog 59 #[exV e ao cap, .int .i64 (i : Nat), bv] w fun x w' => ∃ v, x = .returned v ∧ Nms w' v (bndI e.k e.nm i b) ∧ Below w.heap.size w w' := by
  obtain ⟨ii, hii, hzi0, hzi1, hzi2⟩ := info_parts infoStrT
  have B0 : Below w.heap.size w (w.alloc (.cells #[.int .i64 e.k, .int .i64 e.n, stv e.nm, .slice ao e.kids.len cap, .int .i64 e.a] 25)) := (Below.refl _ w).alloc (Nat.le_refl _) _
  have E0 : (w.alloc (.cells #[.int .i64 e.k, .int .i64 e.n, stv e.nm, .slice ao e.kids.len cap, .int .i64 e.a] 25)).heap[w.heap.size]? = some (.cells #[.int .i64 e.k, .int .i64 e.n, stv e.nm, .slice ao e.kids.len cap, .int .i64 e.a] 25) := heap_alloc_new w _
  have N0' := h.below B0
  have HN : Hid (Nms w bv b) := h
  clear h
  rw [exV_out]
  go_enter Tryz.func59, Tryz.ntmps59
  go_upto_region 1 with fail
  generalize w.alloc (.cells #[.int .i64 e.k, .int .i64 e.n, stv e.nm, .slice ao e.kids.len cap, .int .i64 e.a] 25) = w0 at *
  obtain ⟨bx, hbx⟩ : ∃ bx, bx = w.heap.size := ⟨_, rfl⟩
  rw [← hbx] at E0 B0 ⊢
  have HB : Hid (bx = w.heap.size) := hbx
  clear hbx
  obtain ⟨p0, p1, p2, p3, p4, pf⟩ := box5 E0
  have hbx0 := lt_of_block E0
  by_cases hk : e.k = 21
  · have hk1 : (e.k != 21) = false := by simp [hk]
    by_cases hi : i = 0
    · have hi0 : ((i : Int) == 0) = true := by simp [hi]
      have FIN : Hid (bndI e.k e.nm i b = b) := by show _ = _; unfold bndI; rw [if_neg (by omega)]
      go_wp2
      refine bodyPost_ret (v := bv) (by simp [results, Tryz.results59, go_sem]) rfl ⟨bv, rfl, ?_, by rw [← HB.out]; exact B0⟩
      rw [FIN.out]
      exact N0'
    · have hi0 : ((i : Int) == 0) = false := by simp; omega
      have FIN : Hid (bndI e.k e.nm i b = b ++ [e.nm]) := by show _ = _; unfold bndI; rw [if_pos ⟨hk, hi⟩]
      have hc1 := fun (wx : World) (hx : Nms wx bv b) => cloneS hx (fun _ => 0) (by omega)
      go_wp2_with fail
      clear hk1 hi0 p0 p1 p3 p4
      have Bd : Below w0.heap.size w0 w0.drew := ⟨rfl, rfl, rfl, Nat.le_refl _, fun _ _ => rfl⟩
      have Bda := Bd.alloc (Nat.le_refl _) (.cells #[stv e.nm] 9)
      have hone : ∀ u ∈ [stv e.nm], u.oneCell' = true := by intro u hu; simp at hu; subst hu; rfl
      have b1 : b.length + 1 ≤ maxLen := by unfold maxLen; omega
      have b2 : (b.length + 1) * 16 ≤ 140737488355328 := by omega
      have hmap : (b ++ [e.nm]).map (fun x => stv x) = (b.map fun x => stv x) ++ [stv e.nm] := by simp
      go_region_law (first
        | (go_simp; go_at_call 95; refine (hc1 _ (N0'.below (by first | exact Bd | exact Bda))).mono ?_; rintro x w1 ⟨a1, c1, o1, rfl, R1, s1⟩; have Bw : Below w0.heap.size w0 w1 := (by first | exact Bd.trans ((s1.below (fun _ _ => by decide)).mono (by simp)) | exact Bda.trans ((s1.below (fun _ _ => by decide)).mono (by simp))); have q2 := (Bw.cell (p := ⟨bx, 2, none⟩) hbx0).trans p2; have L1 : ∀ k, k < w0.heap.size → ¬ I1n (o1 k) := fun k hk => by (rw [s1.lab k (by simp; omega)]; decide))
        | (refine step_append_lab rfl (.tmp 16) (.tmp 19) 52 rfl 9 ii (.string ⟨#[]⟩) 1 16 Tryz.underlying52 hii hzi0 hzi1 hzi2 rfl (by decide) o1 1 _ b.length (b.map fun x => stv x) (by simp [Act.eval]) (R1.step (((Step.refl (fun _ => False) w1 o1)).alloc _) (by simp)) ⟨w1.heap.size, 0, none⟩ 1 1 [stv e.nm] (by simp [Act.eval]) rfl (new_one_at (by simp) _ _) hone (by decide) b1 b2 ?_; intro g5 c5 w5 o5 r5 s5; have Bz := below_stepT (Bw.alloc Bw.size (.cells #[stv e.nm] 9)) s5 L1 (Nat.le_refl _))
        | (refine step_append_lab rfl (.tmp 16) (.tmp 19) 52 rfl 9 ii (.string ⟨#[]⟩) 1 16 Tryz.underlying52 hii hzi0 hzi1 hzi2 rfl (by decide) o1 1 _ b.length (b.map fun x => stv x) (by simp [Act.eval]) R1 ⟨w0.heap.size, 0, none⟩ 1 1 [stv e.nm] (by simp [Act.eval]) rfl (new_one_step s1 (by decide)) hone (by decide) b1 b2 ?_; intro g5 c5 w5 o5 r5 s5; have Bz := below_stepT Bw s5 L1 (Nat.le_refl _)))
      all_goals (
        have HZ : Hid (Nms w5 (.slice (some ⟨g5, 0, none⟩) (b.length + 1) c5) (b ++ [e.nm]) ∧ Below bx w w5) := by
          refine ⟨Nms.ofRow (by rw [hmap]; exact r5) (by simp) (by omega), B0.trans (Bz.mono (by omega))⟩
        clear r5 s5 Bz
        go_wp2
        refine bodyPost_ret (v := .slice (some ⟨g5, 0, none⟩) (b.length + 1) c5) (by simp [results, Tryz.results59, go_sem]) rfl ⟨_, rfl, ?_, by rw [← HB.out]; exact HZ.out.2⟩
        rw [FIN.out]
        exact HZ.out.1)
  · have hk1 : (e.k != 21) = true := by simp [hk]
    have FIN : Hid (bndI e.k e.nm i b = b) := by show _ = _; unfold bndI; rw [if_neg (fun h => hk h.1)]
    go_wp2
    refine bodyPost_ret (v := bv) (by simp [results, Tryz.results59, go_sem]) rfl ⟨bv, rfl, ?_, by rw [← HB.out]; exact B0⟩
    rw [FIN.out]
    exact N0'
end Go.Proofs.YtafnlhnenmpfoaaGreatDoor
