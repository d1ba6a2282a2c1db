/- A node is hung at a side of another one. -/
import Derived.Test.YthdmajddmajjoaaFm
import Derived.Deep.RegionHeld
namespace Go.Proofs.Ythdmajddmajjoaa
open Go.ChangeShapes Go.WideShapes Go.ChangeAt Go.RowKit
set_option linter.unusedVariables false

theorem nodeIn (w : World) (o : Nat → Nat) (L p room n : Nat) (free : List Nat) (pt : Nat → Nat) (nd : Nat → Nd) (h : Nat) (F : Fm w o L p room n free pt nd) (hl : Live n free h) :
    Calls Try.prog 41 #[.pointer (some ⟨p, 0, none⟩), .int .i64 h] w fun e w' => e = .returned (.pointer (some ⟨pt h, 0, none⟩)) ∧ w' = w := by
  obtain ⟨pa, cs, h0, h1, h2, h3⟩ := F
  obtain ⟨c0, hf⟩ := h0.cells1
  have g := (h3 h hl).1
  have hc := getInNod w o (L + 1) pa room n cs free (h - 1) (some ⟨pt h, 0, none⟩) (by have := hl.2.1; have := hl.1; omega) hl.use g h1
  have e : h - 1 + 1 = h := by have := hl.1; omega
  rw [e] at hc
  clear h0 h1 h2 h3 g e
  go_enter Try.func41, Try.ntmps41
  go_wp2_with fail
  refine hc.mono ?_
  rintro e w1 ⟨rfl, rfl⟩
  go_wp2
  go_ret
  exact ⟨rfl, rfl⟩

theorem nodeOut (w : World) (o : Nat → Nat) (L p room n : Nat) (free : List Nat) (pt : Nat → Nat) (nd : Nat → Nd) (x : Int) (F : Fm w o L p room n free pt nd) (hb : hasB n free x = false) :
    Calls Try.prog 41 #[.pointer (some ⟨p, 0, none⟩), .int .i64 x] w fun e w' => e = .returned (.pointer none) ∧ w' = w := by
  obtain ⟨pa, cs, h0, h1, h2, h3⟩ := F
  obtain ⟨c0, hf⟩ := h0.cells1
  have hc := getOutNod w o (L + 1) pa room n cs free x hb h1
  clear h0 h1 h2 h3
  go_enter Try.func41, Try.ntmps41
  go_wp2_with fail
  refine hc.mono ?_
  rintro e w1 ⟨rfl, rfl⟩
  go_wp2
  go_ret
  exact ⟨rfl, rfl⟩

theorem sideOf_any (w : World) (o : Nat → Nat) (L p room n : Nat) (free : List Nat) (pt : Nat → Nat) (nd : Nat → Nd) (h u : Nat) (F : Fm w o L p room n free pt nd) (hl : Live n free u) :
    Calls Try.prog 56 #[.pointer (some ⟨p, 0, none⟩), .int .i64 h, .int .i64 u] w fun e w' => e = .returned (.int .i64 (if (nd u).l = h then 0 else 1)) ∧ w' = w := by
  have hc := nodeIn w o L p room n free pt nd u F hl
  obtain ⟨_, c3, c4, c5, _, hf⟩ := (F.node hl).cells12
  by_cases e : (nd u).l = h
  · have e2 : (((nd u).l : Int) == (h : Int)) = true := by simp [e]
    rw [if_pos e]
    clear F e
    go_enter Try.func56, Try.ntmps56
    go_wp2_with fail
    refine hc.mono ?_
    rintro e w1 ⟨rfl, rfl⟩
    go_wp2
    go_ret
    exact ⟨rfl, rfl⟩
  · have e2 : (((nd u).l : Int) == (h : Int)) = false := by simp only [beq_eq_false_iff_ne, ne_eq]; omega
    rw [if_neg e]
    clear F e
    go_enter Try.func56, Try.ntmps56
    go_wp2_with fail
    refine hc.mono ?_
    rintro e w1 ⟨rfl, rfl⟩
    go_wp2
    go_ret
    exact ⟨rfl, rfl⟩

theorem newB (w : World) (o : Nat → Nat) (ob : Obj) : Step (fun _ => False) w o (w.alloc ob) o := allocStep _ w o ob

theorem wholeIn (w : World) (o : Nat → Nat) (L p room n : Nat) (free : List Nat) (pt : Nat → Nat) (nd : Nat → Nd) (h : Nat) (F : Fm w o L p room n free pt nd) (hl : Live n free h) :
    Calls Try.prog 44 #[.pointer (some ⟨p, 0, none⟩), .int .i64 h] w fun e w' => e = .returned (sumsV (nd h).size (nd h).ag) ∧ Step (fun _ => False) w o w' o := by
  have hc := fun wx s => nodeIn wx o L p room n free pt nd h (F.quiet s) hl
  have hlt := (F.node hl).lt
  obtain ⟨_, c3, c4, c5, ⟨c6, c7, c8, c9, c10, c11⟩, hf⟩ := (F.node hl).cells12
  clear F
  go_enter Try.func44, Try.ntmps44
  go_wp2_with fail
  refine (hc _ (newB _ _ _)).mono ?_
  rintro e w1 ⟨rfl, rfl⟩
  go_wp2
  exact bodyPost_ret (v := sumsV (nd h).size (nd h).ag) (by simp [results, Try.results44, go_sem, sumsV]) rfl ⟨rfl, newB _ _ _⟩

theorem wholeOut (w : World) (o : Nat → Nat) (L p room n : Nat) (free : List Nat) (pt : Nat → Nat) (nd : Nat → Nd) (x : Int) (F : Fm w o L p room n free pt nd) (hb : hasB n free x = false) :
    Calls Try.prog 44 #[.pointer (some ⟨p, 0, none⟩), .int .i64 x] w fun e w' => e = .returned (sumsV 0 Ag.zero) ∧ Step (fun _ => False) w o w' o := by
  have hc := fun wx s => nodeOut wx o L p room n free pt nd x (F.quiet s) hb
  clear F
  go_enter Try.func44, Try.ntmps44
  go_wp2_with fail
  refine (hc _ (newB _ _ _)).mono ?_
  rintro e w1 ⟨rfl, rfl⟩
  go_wp2
  exact bodyPost_ret (v := sumsV 0 Ag.zero) (by simp [results, Try.results44, go_sem, sumsV, Ag.zero]) rfl ⟨rfl, newB _ _ _⟩

theorem or_nat (a b : Nat) (ha : a ≤ 255) (hb : b ≤ 255) : bits .or .i64 (a : Int) (b : Int) = ((a ||| b : Nat) : Int) :=
  (bits_nat .i64 62 (by decide) (fun n h1 h2 => by rw [IntKind.wrap_i64]; omega) a b (by omega) (by omega)).2
theorem and_nat (a b : Nat) (ha : a ≤ 255) (hb : b ≤ 255) : bits .and .i64 (a : Int) (b : Int) = ((a &&& b : Nat) : Int) :=
  (bits_nat .i64 62 (by decide) (fun n h1 h2 => by rw [IntKind.wrap_i64]; omega) a b (by omega) (by omega)).1

theorem single_any (w : World) (o : Nat → Nat) (x : It) :
    Calls Try.prog 39 #[itemV x] w fun e w' => e = .returned (sumsV 1 x.one) ∧ Step (fun _ => False) w o w' o := by
  unfold itemV
  by_cases hc : x.c = true
  · have e1 : x.one = ⟨1, x.v, x.v, x.v, x.f⟩ := by simp [It.one, hc]
    rw [hc, e1]
    go_enter Try.func39, Try.ntmps39
    go_wp2
    exact bodyPost_ret (v := sumsV 1 ⟨1, x.v, x.v, x.v, x.f⟩) (by simp [results, Try.results39, go_sem, sumsV]) rfl ⟨rfl, (newB _ _ _).trans (newB _ _ _)⟩
  · have hc' : x.c = false := by simpa using hc
    have e1 : x.one = ⟨0, 0, 0, 0, x.f⟩ := by simp [It.one, hc]
    rw [hc', e1]
    clear hc
    go_enter Try.func39, Try.ntmps39
    go_wp2
    exact bodyPost_ret (v := sumsV 1 ⟨0, 0, 0, 0, x.f⟩) (by simp [results, Try.results39, go_sem, sumsV]) rfl ⟨rfl, (newB _ _ _).trans (newB _ _ _)⟩

theorem four_new (w : World) (o : Nat → Nat) (a b c d : Obj) : Step (fun _ => False) w o ((((w.alloc a).alloc b).alloc c).alloc d) o := (((newB w o a).trans (newB _ o b)).trans (newB _ o c)).trans (newB _ o d)
theorem minmax_cases (a b c d : Int) : (a ≤ b ∨ b < a) ∧ (c ≤ d ∨ d < c) := ⟨by omega, by omega⟩

end Go.Proofs.Ythdmajddmajjoaa
namespace Go.Proofs.Ythdmajddmajjoaa
open Go.ChangeShapes Go.WideShapes Go.ChangeAt Go.RowKit
set_option linter.unusedVariables false

set_option maxRecDepth 100000 in
set_option maxHeartbeats 4000000 in
theorem and_any (w : World) (o : Nat → Nat) (s t : Nat) (a b : Ag) (hs : s ≤ 4096) (ht : t ≤ 4096) (ha : a.bd s) (hb : b.bd t) :
    Calls Try.prog 59 #[sumsV s a, sumsV t b] w fun e w' => e = .returned (sumsV (s + t) (a.both b)) ∧ Step (fun _ => False) w o w' o := by
  obtain ⟨a1, a2, a3, a4, a5, a6, a7, a8⟩ := ha
  obtain ⟨b1, b2, b3, b4, b5, b6, b7, b8⟩ := hb
  have w1 : IntKind.i64.wrap ((s : Int) + t) = s + t := by rw [IntKind.wrap_i64]; omega
  have w2 : IntKind.i64.wrap ((a.count : Int) + b.count) = a.count + b.count := by rw [IntKind.wrap_i64]; omega
  have w3 : IntKind.i64.wrap (a.sum + b.sum) = a.sum + b.sum := by rw [IntKind.wrap_i64]; omega
  have w4 := or_nat a.flags b.flags a8 b8
  obtain ⟨sf, hsf⟩ : ∃ sf, sf = a.both b := ⟨_, rfl⟩
  rw [← hsf]
  have HS : Hid (sf = a.both b) := hsf
  clear hsf
  unfold sumsV
  by_cases hca : a.count = 0
  · have e1 : ((a.count : Int) == 0) = true := by simp [hca]
    go_enter Try.func59, Try.ntmps59
    go_wp2
    all_goals
      go_region
      all_goals (try go_wp2)
      all_goals
        refine bodyPost_ret (v := sumsV (s + t) sf) ?_ rfl ⟨rfl, (four_new _ _ _ _ _ _).drew⟩
        rw [HS.out]
        simp [results, Try.results59, go_sem, sumsV, Ag.both, hca]
  · have e1 : ((a.count : Int) == 0) = false := by simp only [beq_eq_false_iff_ne, ne_eq]; omega
    by_cases hcb : b.count = 0
    · have e2 : ((b.count : Int) == 0) = true := by simp [hcb]
      go_enter Try.func59, Try.ntmps59
      go_wp2
      all_goals
        go_region
        all_goals (try go_wp2)
        all_goals
          refine bodyPost_ret (v := sumsV (s + t) sf) ?_ rfl ⟨rfl, (four_new _ _ _ _ _ _).drew⟩
          rw [HS.out]
          simp [results, Try.results59, go_sem, sumsV, Ag.both, hca, hcb]
    · have e2 : ((b.count : Int) == 0) = false := by simp only [beq_eq_false_iff_ne, ne_eq]; omega
      go_enter Try.func59, Try.ntmps59
      go_wp2
      all_goals
        all_goals
          refine bodyPost_ret (v := sumsV (s + t) sf) ?_ rfl ⟨rfl, four_new _ _ _ _ _ _⟩
          rw [HS.out]
          simp [results, Try.results59, go_sem, sumsV, Ag.both, hca, hcb]
          try omega

end Go.Proofs.Ythdmajddmajjoaa
namespace Go.Proofs.Ythdmajddmajjoaa
open Go.ChangeShapes Go.WideShapes Go.ChangeAt Go.RowKit
set_option linter.unusedVariables false

def Nd.setCh (x : Nd) (s b : Nat) : Nd := if s = 0 then { x with l := b } else { x with r := b }
def Nd.setUp (x : Nd) (u : Nat) : Nd := { x with up := u }
def hangN (nd : Nat → Nd) (h s b : Nat) : Nat → Nd :=
  if b = 0 then upd nd h ((nd h).setCh s b) else upd (upd nd h ((nd h).setCh s b)) b (((upd nd h ((nd h).setCh s b)) b).setUp h)

theorem hang_any (w : World) (o : Nat → Nat) (L p room n : Nat) (free : List Nat) (pt : Nat → Nat) (nd : Nat → Nd) (h s b : Nat) (F : Fm w o L p room n free pt nd) (hl : Live n free h) (hs : s ≤ 1) (hb : b = 0 ∨ Live n free b) :
    Calls Try.prog 42 #[.pointer (some ⟨p, 0, none⟩), .int .i64 h, .int .i64 s, .int .i64 b] w fun e w' => e = .returned (.tuple #[]) ∧ Fm w' o L p room n free pt (hangN nd h s b) ∧ Step (NL L) w o w' o := by
  have hc := nodeIn w o L p room n free pt nd h F hl
  obtain ⟨_, c3, c4, c5, _, hf⟩ := (F.node hl).cells12
  have hcell : w.cell? ⟨pt h, 4 + s, none⟩ = some (.int .i64 (if s = 0 then (nd h).l else (nd h).r : Nat)) := by
    rcases (show s = 0 ∨ s = 1 by omega) with rfl | rfl
    · exact c4
    · exact c5
  obtain ⟨F1, S1⟩ := F.set hl (4 + s) (.int .i64 b) ((nd h).setCh s b) (by
    rcases (show s = 0 ∨ s = 1 by omega) with rfl | rfl <;> simp [Nd.cells, Nd.setCh])
  have hsi : (s : Int) < 2 := by omega
  rcases hb with rfl | hb
  · have e1 : hangN nd h s 0 = upd nd h ((nd h).setCh s 0) := by simp [hangN]
    rw [e1]
    have hc2 := nodeOut _ o L p room n free pt _ 0 F1 (has0 n free)
    clear F e1
    go_enter Try.func42, Try.ntmps42
    go_wp2_with fail
    refine hc.mono ?_
    rintro e w1 ⟨rfl, rfl⟩
    go_wp2_with fail
    refine hc2.mono ?_
    rintro e w2 ⟨rfl, rfl⟩
    go_wp2
    go_end0
    exact ⟨rfl, F1, S1⟩
  · have b0 : b ≠ 0 := by have := hb.1; omega
    have e1 : hangN nd h s b = upd (upd nd h ((nd h).setCh s b)) b (((upd nd h ((nd h).setCh s b)) b).setUp h) := by simp [hangN, b0]
    rw [e1]
    have hc2 := nodeIn _ o L p room n free pt _ b F1 hb
    obtain ⟨_, d3, d4, d5, _, hfd⟩ := (F1.node hb).cells12
    obtain ⟨F2, S2⟩ := F1.set hb 3 (.int .i64 h) (((upd nd h ((nd h).setCh s b)) b).setUp h) (by simp [Nd.cells, Nd.setUp])
    clear F e1 F1
    go_enter Try.func42, Try.ntmps42
    go_wp2_with fail
    refine hc.mono ?_
    rintro e w1 ⟨rfl, rfl⟩
    go_wp2_with fail
    refine hc2.mono ?_
    rintro e w2 ⟨rfl, rfl⟩
    go_wp2
    go_end0
    exact ⟨rfl, F2, S1.trans S2⟩

end Go.Proofs.Ythdmajddmajjoaa
