/- The walk of the law VsetFamilies, up to its ends. -/
import Derived.Test.YtmpkhbblakfglaaDoorFStep49
import Derived.Test.YtmpkhbblakfglaaDoorFStep79
import Derived.Test.YtmpkhbblakfglaaDoorDeedArg9
namespace Go.Proofs.YtmpkhbblakfglaaDoor
open Go.ChangeShapes Go.WideShapes Go.ChangeAt Go.RowKit Go.Maps
set_option linter.unusedVariables false
set_option linter.unusedSimpArgs false

theorem step_any (w : World) (o : Nat → Nat) (B ps : Nat) (hB : B = 1000000 ∨ B = 2000000) (hc : Cl o) (h : SX B ps w o) (kd n : Int) (s : ByteArray) (hs : s.size ≤ maxLen) (ao : Option Addr) (len cap : Nat) (ot : Bool) (f : Nat → Int) (hI : Ints w ao len f) (hlab : ∀ ad, ao = some ad → 0 < len → o ad.block = 0) (hmx : len ≤ maxLen) :
    Calls Tryd.prog 6 #[.pointer (some ⟨ps, 0, none⟩), .agg #[.int .i64 kd, .int .i64 n, .string s, .slice ao len cap, .bool ot]] w fun e w' => StO w o B (SX B ps) e w' := by
  have hB1 : 1000 ≤ B := by omega
  by_cases k1 : kd = 1
  · subst k1; exact step_1 w o B ps hB1 h n s hs ao len cap ot
  · by_cases k2 : kd = 2
    · subst k2; exact step_2 w o B ps hB1 h n s hs ao len cap ot
    · by_cases k3 : kd = 3
      · subst k3; exact step_3 w o B ps hB1 h n s hs ao len cap ot
      · by_cases k4 : kd = 4
        · subst k4; exact step_4 w o B ps hB1 h n s hs ao len cap ot f hI hlab hmx
        · by_cases k5 : kd = 5
          · subst k5; exact step_5 w o B ps hB1 h n s ao len cap ot
          · by_cases k6 : kd = 6
            · subst k6; exact step_6 w o B ps hB1 h n s ao len cap ot
            · by_cases k7 : kd = 7
              · subst k7; exact step_7 w o B ps hB hc h n s ao len cap ot
              · exact step_x w o B ps h kd n k1 k2 k3 k4 k5 k6 k7 s ao len cap ot
/-- Both sides of the law. -/
structure Two (w : World) (o : Nat → Nat) (p1 p2 : Nat) (wr : World) (o' : Nat → Nat) : Prop where
  a : SX 1000000 p1 wr o'
  b : SX 2000000 p2 wr o'
  c : Cl o'
  s : Step (fun k => 0 < k) w o wr o'
theorem Two.left {w wr w' : World} {o o' : Nat → Nat} {p1 p2 : Nat} (h : Two w o p1 p2 wr o') {e : Ending} (k : StO wr o' 1000000 (SX 1000000 p1) e w') : e = .returned (.bool true) ∧ ∃ o2, Two w o p1 p2 w' o2 := by
  obtain ⟨h1, o2, h2, h3⟩ := k
  refine ⟨h1, clean o2, h2.lab (.inl rfl) (clean_rl o2 w'), (h.b.step h3 (fun k hk => by unfold SB at *; omega) (by unfold SB; omega)).lab (.inr rfl) (clean_rl o2 w'), clean_cl o2, h.s.trans ((h3.cleaned h.c).mono fun k hk => by unfold SB at hk; omega)⟩
theorem Two.right {w wr w' : World} {o o' : Nat → Nat} {p1 p2 : Nat} (h : Two w o p1 p2 wr o') {e : Ending} (k : StO wr o' 2000000 (SX 2000000 p2) e w') : e = .returned (.bool true) ∧ ∃ o2, Two w o p1 p2 w' o2 := by
  obtain ⟨h1, o2, h2, h3⟩ := k
  refine ⟨h1, clean o2, (h.a.step h3 (fun k hk => by unfold SB at *; omega) (by unfold SB; omega)).lab (.inl rfl) (clean_rl o2 w'), h2.lab (.inr rfl) (clean_rl o2 w'), clean_cl o2, h.s.trans ((h3.cleaned h.c).mono fun k hk => by unfold SB at hk; omega)⟩
def EndsOk : Prop := ∀ (w : World) (o : Nat → Nat) (B ps : Nat), (B = 1000000 ∨ B = 2000000) → Cl o → SX B ps w o → Calls Tryd.prog 7 #[.pointer (some ⟨ps, 0, none⟩)] w fun e w' => e = .returned (.bool true) ∧ ∃ o', Step (fun k => SB B k ∨ (90 ≤ k ∧ k < 300)) w o w' o'
theorem oldF {w w' : World} {o' : Nat → Nat} (s : Step (fun k => 0 < k) w (fun _ => 0) w' o') : Below w.heap.size w w' := s.below (fun k _ => by simp)
/-- A new side. -/
theorem SX.new {B : Nat} (hB : B = 1000000 ∨ B = 2000000) {w : World} {o : Nat → Nat} {pf : Nat} (hF : Fam w o (B + 1000) pf 0 (fun _ => none)) (hT : TzL w o) (hW : WdL w o) :
    SX B (w.heap.size + 1) ((w.alloc (.cells #[.slice none 0 0, .slice none 0 0] 31)).alloc (.cells #[.pointer (some ⟨pf, 0, none⟩), .pointer (some ⟨w.heap.size, 0, none⟩), .slice none 0 0, .slice none 0 0] 34)) (newLab (w.alloc (.cells #[.slice none 0 0, .slice none 0 0] 31)) (newLab w o (B + 1)) B) := by
  have s1 := newStep (fun _ => False) w o (B + 1) (.cells #[.slice none 0 0, .slice none 0 0] 31)
  have b1 : Blk (w.alloc (.cells #[.slice none 0 0, .slice none 0 0] 31)) (newLab w o (B + 1)) (B + 1) w.heap.size (.cells #[.slice none 0 0, .slice none 0 0] 31 (0, 0)) := ⟨heap_alloc_new w _, newLab_new (Nat.le_refl _)⟩
  have hsz : (w.alloc (.cells #[.slice none 0 0, .slice none 0 0] 31)).heap.size = w.heap.size + 1 := by simp
  have s2 := newStep (fun _ => False) (w.alloc (.cells #[.slice none 0 0, .slice none 0 0] 31)) (newLab w o (B + 1)) B (.cells #[.pointer (some ⟨pf, 0, none⟩), .pointer (some ⟨w.heap.size, 0, none⟩), .slice none 0 0, .slice none 0 0] 34)
  have b2 : Blk ((w.alloc (.cells #[.slice none 0 0, .slice none 0 0] 31)).alloc (.cells #[.pointer (some ⟨pf, 0, none⟩), .pointer (some ⟨w.heap.size, 0, none⟩), .slice none 0 0, .slice none 0 0] 34)) (newLab (w.alloc (.cells #[.slice none 0 0, .slice none 0 0] 31)) (newLab w o (B + 1)) B) B (w.heap.size + 1) (.cells #[.pointer (some ⟨pf, 0, none⟩), .pointer (some ⟨w.heap.size, 0, none⟩), .slice none 0 0, .slice none 0 0] 34 (0, 0)) := by
    have := heap_alloc_new (w.alloc (.cells #[.slice none 0 0, .slice none 0 0] 31)) (.cells #[.pointer (some ⟨pf, 0, none⟩), .pointer (some ⟨w.heap.size, 0, none⟩), .slice none 0 0, .slice none 0 0] 34)
    rw [hsz] at this
    exact ⟨this, newLab_new (by omega)⟩
  refine ⟨pf, w.heap.size, 0, [], fun _ => none, 0, [], [], ⟨by omega, ⟨fun s => by simp, List.Pairwise.nil⟩, rfl, rfl, fun i hi => by omega, fun s x hx => by cases hx⟩, .slice none 0 0, .slice none 0 0, [], [], ⟨b2, Row.nil _ _ _ _ _, Row.nil _ _ _ _ _, LT.nil _ _ _, rfl⟩, (hF.step s1 id id).step s2 id id, ⟨B + 2, B + 3, none, 0, none, 0, b1.step s2 id, Row.nil _ _ _ _ _, Row.nil _ _ _ _ _, .inl (by omega), .inl (by omega), rfl, rfl⟩, (hT.step s1 id).step s2 id, (hW.step s1 id).step s2 id⟩
end Go.Proofs.YtmpkhbblakfglaaDoor
