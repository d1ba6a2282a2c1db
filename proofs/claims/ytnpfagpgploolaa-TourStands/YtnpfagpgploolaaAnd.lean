/- What two pieces' sums come to together. -/
import Derived.Test.YtnpfagpgploolaaNode
namespace Go.Proofs.Ytnpfagpgploolaa
open Go.ChangeShapes Go.WideShapes Go.ChangeAt Go.RowKit
set_option linter.unusedVariables false

set_option maxRecDepth 100000 in
set_option maxHeartbeats 4000000 in
theorem and_any (w : World) (o : Nat → Nat) (s t : Nat) (a b : Ag) (hs : s ≤ 4096) (ht : t ≤ 4096) (ha : a.bd s) (hb : b.bd t) :
    Calls Try.prog 87 #[sumsV s a, sumsV t b] w fun e w' => e = .returned (sumsV (s + t) (a.both b)) ∧ Step (fun _ => False) w o w' o := by
  obtain ⟨a1, a2, a3, a4, a5, a6, a7, a8⟩ := ha
  obtain ⟨b1, b2, b3, b4, b5, b6, b7, b8⟩ := hb
  have w1 : IntKind.i64.wrap ((s : Int) + t) = s + t := by rw [IntKind.wrap_i64]; omega
  have w2 : IntKind.i64.wrap ((a.count : Int) + b.count) = a.count + b.count := by rw [IntKind.wrap_i64]; omega
  have w3 : IntKind.i64.wrap (a.sum + b.sum) = a.sum + b.sum := by rw [IntKind.wrap_i64]; omega
  have w4 := or_nat a.flags b.flags a8 b8
  obtain ⟨sf, hsf⟩ : ∃ sf, sf = a.both b := ⟨_, rfl⟩
  rw [← hsf]
  have HS : Hid (sf = a.both b) := hsf
  clear hsf
  unfold sumsV
  by_cases hca : a.count = 0
  · have e1 : ((a.count : Int) == 0) = true := by simp [hca]
    go_enter Try.func87, Try.ntmps87
    go_wp2
    all_goals
      go_region
      all_goals (try go_wp2)
      all_goals
        refine bodyPost_ret (v := sumsV (s + t) sf) ?_ rfl ⟨rfl, (four_new _ _ _ _ _ _).drew⟩
        rw [HS.out]
        simp [results, Try.results87, go_sem, sumsV, Ag.both, hca]
  · have e1 : ((a.count : Int) == 0) = false := by simp only [beq_eq_false_iff_ne, ne_eq]; omega
    by_cases hcb : b.count = 0
    · have e2 : ((b.count : Int) == 0) = true := by simp [hcb]
      go_enter Try.func87, Try.ntmps87
      go_wp2
      all_goals
        go_region
        all_goals (try go_wp2)
        all_goals
          refine bodyPost_ret (v := sumsV (s + t) sf) ?_ rfl ⟨rfl, (four_new _ _ _ _ _ _).drew⟩
          rw [HS.out]
          simp [results, Try.results87, go_sem, sumsV, Ag.both, hca, hcb]
    · have e2 : ((b.count : Int) == 0) = false := by simp only [beq_eq_false_iff_ne, ne_eq]; omega
      go_enter Try.func87, Try.ntmps87
      go_wp2
      all_goals
        all_goals
          refine bodyPost_ret (v := sumsV (s + t) sf) ?_ rfl ⟨rfl, four_new _ _ _ _ _ _⟩
          rw [HS.out]
          simp [results, Try.results87, go_sem, sumsV, Ag.both, hca, hcb]
          try omega

end Go.Proofs.Ytnpfagpgploolaa
