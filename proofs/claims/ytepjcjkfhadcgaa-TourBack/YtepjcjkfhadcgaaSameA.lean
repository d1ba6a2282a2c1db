/- Lists of numbers compared, whatever they are; what a link that is cut again leaves. -/
import Derived.Test.YtepjcjkfhadcgaaAwake4
import Derived.Deep.LoopGhost
namespace Go.Proofs.Ytepjcjkfhadcgaa
open Go.ChangeShapes Go.WideShapes Go.ChangeAt Go.RowKit Go.Maps
set_option linter.unusedVariables false

theorem drewN2 (w : World) (a b : Nat) : (w.drewN a).drewN b = w.drewN (a + b) := by
  simp [World.drewN, Nat.add_assoc]

set_option maxRecDepth 100000 in
theorem same_any (w : World) (o o2 : Nat → Nat) (i j : Nat) (va vb : Value) (xs ys : List Nat) (ha : Vw w o i va xs) (hb : Vw w o2 j vb ys) :
    Calls Try.prog 29 #[va, vb] w fun e w' => e = .returned (.bool (decide (xs = ys))) ∧ ∃ m, w' = w.drewN m := by
  obtain ⟨aa, ca, rfl, hca, hma, hpa⟩ := ha
  obtain ⟨ab, cb, rfl, hcb, hmb, hpb⟩ := hb
  unfold maxLen at hma hmb
  by_cases hl : xs.length = ys.length
  · have hb1 : ((xs.length : Int) == (ys.length : Int)) = true := by simp [hl]
    rw [← hl] at hb1 ⊢
    go_enter Try.func29, Try.ntmps29
    go_wp2
    go_loopg [5] xs.length (fun gh v wr => ∃ k : Nat, k ≤ xs.length ∧ v = .int .i64 (k : Nat) ∧ gh = xs.length - k ∧ xs.take k = ys.take k ∧ ∃ m, wr = w.drewN m)
    case atStart => exact ⟨0, by omega, by go_num, by omega, by simp, 0, rfl⟩
    case round =>
      obtain ⟨k, hk, rfl, rfl, htk, m, rfl⟩ := hrel
      by_cases hlt : k < xs.length
      · obtain ⟨ga, fa, rfl, _, _, hcella⟩ := hpa (by omega)
        obtain ⟨gb, fb, rfl, _, _, hcellb⟩ := hpb (by omega)
        have hlt2 : k < ys.length := by omega
        have c1 := hcella k hlt
        have c2 := hcellb k hlt2
        have HT : Hid (xs.take k = ys.take k) := htk
        by_cases he : xs[k] = ys[k]
        · have HE : Hid (xs[k] = ys[k]) := he
          rw [← he] at c2
          obtain ⟨x, hx⟩ : ∃ x, x = xs[k] := ⟨_, rfl⟩
          rw [← hx] at c1 c2
          clear hpa hpb hcella hcellb hx he htk
          go_wp2
          go_quiet (fail)
          go_wp2
          go_roundg (xs.length - (k + 1))
          case measure => omega
          case rel => (try ((repeat apply Exists.intro); refine ⟨?_, rfl⟩)); exact ⟨k + 1, by omega, by go_num, rfl, by rw [List.take_succ_eq_append_getElem hlt, List.take_succ_eq_append_getElem hlt2, HT.out, HE.out], _, rfl⟩
        · have HNO : Hid (decide (xs = ys) = false) := decide_eq_false (fun e => he (by subst e; rfl))
          obtain ⟨x, hx⟩ : ∃ x, x = xs[k] := ⟨_, rfl⟩
          obtain ⟨y, hy⟩ : ∃ y, y = ys[k] := ⟨_, rfl⟩
          rw [← hx] at c1
          rw [← hy] at c2
          have hne : ((x : Int) == (y : Int)) = false := by
            simp only [beq_eq_false_iff_ne, ne_eq]; intro e; apply he; rw [← hx, ← hy]; omega
          have hne2 : ¬ x = y := by intro e; apply he; rw [← hx, ← hy]; exact e
          clear hpa hpb hcella hcellb hx hy he htk
          go_wp2
          go_quiet (fail)
          go_wp2
          go_ret
          exact ⟨by rw [HNO.out]; rfl, _, drewN2 _ _ _⟩
      · obtain rfl : k = xs.length := by omega
        have HY : Hid (decide (xs = ys) = true) := decide_eq_true (by rw [List.take_length, hl, List.take_length] at htk; exact htk)
        clear hpa hpb htk
        go_wp2
        go_ret
        exact ⟨by rw [HY.out]; rfl, m, rfl⟩
  · have hb1 : ((xs.length : Int) == (ys.length : Int)) = false := by simp only [beq_eq_false_iff_ne, ne_eq]; omega
    have hno : decide (xs = ys) = false := decide_eq_false (fun e => hl (by rw [e]))
    rw [hno]
    clear hpa hpb hno
    go_enter Try.func29, Try.ntmps29
    go_wp2
    go_ret
    exact ⟨rfl, 0, rfl⟩

end Go.Proofs.Ytepjcjkfhadcgaa
