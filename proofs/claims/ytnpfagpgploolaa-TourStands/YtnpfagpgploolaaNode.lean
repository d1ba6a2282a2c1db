/- The small calls of a forest that only read: a node, what it comes to, at which side it hangs. -/
import Derived.Test.YtnpfagpgploolaaFm
import Derived.Deep.RegionHeld
namespace Go.Proofs.Ytnpfagpgploolaa
open Go.ChangeShapes Go.WideShapes Go.ChangeAt Go.RowKit
set_option linter.unusedVariables false

theorem nodeIn (w : World) (o : Nat → Nat) (L p room n : Nat) (free : List Nat) (pt : Nat → Nat) (nd : Nat → Nd) (h : Nat) (F : Fm w o L p room n free pt nd) (hl : Live n free h) :
    Calls Try.prog 72 #[.pointer (some ⟨p, 0, none⟩), .int .i64 h] w fun e w' => e = .returned (.pointer (some ⟨pt h, 0, none⟩)) ∧ w' = w := by
  obtain ⟨pa, cs, h0, h1, h2, h3⟩ := F
  obtain ⟨c0, hf⟩ := h0.cells1
  have g := (h3 h hl).1
  have hc := getInNod w o (L + 1) pa room n cs free (h - 1) (some ⟨pt h, 0, none⟩) (by have := hl.2.1; have := hl.1; omega) hl.use g h1
  have e : h - 1 + 1 = h := by have := hl.1; omega
  rw [e] at hc
  clear h0 h1 h2 h3 g e
  go_enter Try.func72, Try.ntmps72
  go_wp2_with fail
  refine hc.mono ?_
  rintro e w1 ⟨rfl, rfl⟩
  go_wp2
  go_ret
  exact ⟨rfl, rfl⟩

theorem nodeOut (w : World) (o : Nat → Nat) (L p room n : Nat) (free : List Nat) (pt : Nat → Nat) (nd : Nat → Nd) (x : Int) (F : Fm w o L p room n free pt nd) (hb : hasB n free x = false) :
    Calls Try.prog 72 #[.pointer (some ⟨p, 0, none⟩), .int .i64 x] w fun e w' => e = .returned (.pointer none) ∧ w' = w := by
  obtain ⟨pa, cs, h0, h1, h2, h3⟩ := F
  obtain ⟨c0, hf⟩ := h0.cells1
  have hc := getOutNod w o (L + 1) pa room n cs free x hb h1
  clear h0 h1 h2 h3
  go_enter Try.func72, Try.ntmps72
  go_wp2_with fail
  refine hc.mono ?_
  rintro e w1 ⟨rfl, rfl⟩
  go_wp2
  go_ret
  exact ⟨rfl, rfl⟩

theorem sideOf_any (w : World) (o : Nat → Nat) (L p room n : Nat) (free : List Nat) (pt : Nat → Nat) (nd : Nat → Nd) (h u : Nat) (F : Fm w o L p room n free pt nd) (hl : Live n free u) :
    Calls Try.prog 84 #[.pointer (some ⟨p, 0, none⟩), .int .i64 h, .int .i64 u] w fun e w' => e = .returned (.int .i64 (if (nd u).l = h then 0 else 1)) ∧ w' = w := by
  have hc := nodeIn w o L p room n free pt nd u F hl
  obtain ⟨_, c3, c4, c5, _, hf⟩ := (F.node hl).cells12
  by_cases e : (nd u).l = h
  · have e2 : (((nd u).l : Int) == (h : Int)) = true := by simp [e]
    rw [if_pos e]
    clear F e
    go_enter Try.func84, Try.ntmps84
    go_wp2_with fail
    refine hc.mono ?_
    rintro e w1 ⟨rfl, rfl⟩
    go_wp2
    go_ret
    exact ⟨rfl, rfl⟩
  · have e2 : (((nd u).l : Int) == (h : Int)) = false := by simp only [beq_eq_false_iff_ne, ne_eq]; omega
    rw [if_neg e]
    clear F e
    go_enter Try.func84, Try.ntmps84
    go_wp2_with fail
    refine hc.mono ?_
    rintro e w1 ⟨rfl, rfl⟩
    go_wp2
    go_ret
    exact ⟨rfl, rfl⟩

theorem newB (w : World) (o : Nat → Nat) (ob : Obj) : Step (fun _ => False) w o (w.alloc ob) o := allocStep _ w o ob

theorem wholeIn (w : World) (o : Nat → Nat) (L p room n : Nat) (free : List Nat) (pt : Nat → Nat) (nd : Nat → Nd) (h : Nat) (F : Fm w o L p room n free pt nd) (hl : Live n free h) :
    Calls Try.prog 81 #[.pointer (some ⟨p, 0, none⟩), .int .i64 h] w fun e w' => e = .returned (sumsV (nd h).size (nd h).ag) ∧ Step (fun _ => False) w o w' o := by
  have hc := fun wx s => nodeIn wx o L p room n free pt nd h (F.quiet s) hl
  have hlt := (F.node hl).lt
  obtain ⟨_, c3, c4, c5, ⟨c6, c7, c8, c9, c10, c11⟩, hf⟩ := (F.node hl).cells12
  clear F
  go_enter Try.func81, Try.ntmps81
  go_wp2_with fail
  refine (hc _ (newB _ _ _)).mono ?_
  rintro e w1 ⟨rfl, rfl⟩
  go_wp2
  exact bodyPost_ret (v := sumsV (nd h).size (nd h).ag) (by simp [results, Try.results81, go_sem, sumsV]) rfl ⟨rfl, newB _ _ _⟩

theorem wholeOut (w : World) (o : Nat → Nat) (L p room n : Nat) (free : List Nat) (pt : Nat → Nat) (nd : Nat → Nd) (x : Int) (F : Fm w o L p room n free pt nd) (hb : hasB n free x = false) :
    Calls Try.prog 81 #[.pointer (some ⟨p, 0, none⟩), .int .i64 x] w fun e w' => e = .returned (sumsV 0 Ag.zero) ∧ Step (fun _ => False) w o w' o := by
  have hc := fun wx s => nodeOut wx o L p room n free pt nd x (F.quiet s) hb
  clear F
  go_enter Try.func81, Try.ntmps81
  go_wp2_with fail
  refine (hc _ (newB _ _ _)).mono ?_
  rintro e w1 ⟨rfl, rfl⟩
  go_wp2
  exact bodyPost_ret (v := sumsV 0 Ag.zero) (by simp [results, Try.results81, go_sem, sumsV, Ag.zero]) rfl ⟨rfl, newB _ _ _⟩

theorem or_nat (a b : Nat) (ha : a ≤ 255) (hb : b ≤ 255) : bits .or .i64 (a : Int) (b : Int) = ((a ||| b : Nat) : Int) :=
  (bits_nat .i64 62 (by decide) (fun n h1 h2 => by rw [IntKind.wrap_i64]; omega) a b (by omega) (by omega)).2
theorem and_nat (a b : Nat) (ha : a ≤ 255) (hb : b ≤ 255) : bits .and .i64 (a : Int) (b : Int) = ((a &&& b : Nat) : Int) :=
  (bits_nat .i64 62 (by decide) (fun n h1 h2 => by rw [IntKind.wrap_i64]; omega) a b (by omega) (by omega)).1

theorem single_any (w : World) (o : Nat → Nat) (x : It) :
    Calls Try.prog 80 #[itemV x] w fun e w' => e = .returned (sumsV 1 x.one) ∧ Step (fun _ => False) w o w' o := by
  unfold itemV
  by_cases hc : x.c = true
  · have e1 : x.one = ⟨1, x.v, x.v, x.v, x.f⟩ := by simp [It.one, hc]
    rw [hc, e1]
    go_enter Try.func80, Try.ntmps80
    go_wp2
    exact bodyPost_ret (v := sumsV 1 ⟨1, x.v, x.v, x.v, x.f⟩) (by simp [results, Try.results80, go_sem, sumsV]) rfl ⟨rfl, (newB _ _ _).trans (newB _ _ _)⟩
  · have hc' : x.c = false := by simpa using hc
    have e1 : x.one = ⟨0, 0, 0, 0, x.f⟩ := by simp [It.one, hc]
    rw [hc', e1]
    clear hc
    go_enter Try.func80, Try.ntmps80
    go_wp2
    exact bodyPost_ret (v := sumsV 1 ⟨0, 0, 0, 0, x.f⟩) (by simp [results, Try.results80, go_sem, sumsV]) rfl ⟨rfl, (newB _ _ _).trans (newB _ _ _)⟩

theorem four_new (w : World) (o : Nat → Nat) (a b c d : Obj) : Step (fun _ => False) w o ((((w.alloc a).alloc b).alloc c).alloc d) o := (((newB w o a).trans (newB _ o b)).trans (newB _ o c)).trans (newB _ o d)
theorem minmax_cases (a b c d : Int) : (a ≤ b ∨ b < a) ∧ (c ≤ d ∨ d < c) := ⟨by omega, by omega⟩

end Go.Proofs.Ytnpfagpgploolaa
