/- What two pieces come to together, by the law's own words. -/
import Derived.Test.YthnocaiehhcdeabLaw
namespace Go.Proofs.Ythnocaiehhcdeab
open Go.ChangeShapes Go.WideShapes Go.ChangeAt Go.RowKit
set_option linter.unusedVariables false

set_option maxRecDepth 100000 in
set_option maxHeartbeats 4000000 in
theorem added_any (w : World) (o : Nat → Nat) (A B : List It) (mA : ∀ x ∈ A, x.may) (mB : ∀ x ∈ B, x.may) (lA : A.length ≤ 1024) (lB : B.length ≤ 1024) :
    Calls Try.prog 12 #[aggV (agg A), aggV (agg B)] w fun e w' => e = .returned (aggV (agg (A ++ B))) ∧ Step (fun _ => False) w o w' o := by
  obtain ⟨a1, a2, a3, a4, a5, a6, a7, a8⟩ := agg_bd A mA
  obtain ⟨b1, b2, b3, b4, b5, b6, b7, b8⟩ := agg_bd B mB
  have nA := agg_none A
  have nB := agg_none B
  rw [agg_append]
  obtain ⟨a, ha⟩ : ∃ a, a = agg A := ⟨_, rfl⟩
  obtain ⟨b, hb⟩ : ∃ b, b = agg B := ⟨_, rfl⟩
  rw [← ha] at a1 a2 a3 a4 a5 a6 a7 a8 nA ⊢
  rw [← hb] at b1 b2 b3 b4 b5 b6 b7 b8 nB ⊢
  clear ha hb mA mB
  have w2 : IntKind.i64.wrap ((a.count : Int) + b.count) = a.count + b.count := by rw [IntKind.wrap_i64]; omega
  have w3 : IntKind.i64.wrap (a.sum + b.sum) = a.sum + b.sum := by rw [IntKind.wrap_i64]; omega
  have w4 := or_nat a.flags b.flags a8 b8
  obtain ⟨sf, hsf⟩ : ∃ sf, sf = a.both b := ⟨_, rfl⟩
  rw [← hsf]
  have HS : Hid (sf = a.both b) := hsf
  clear hsf
  unfold aggV
  by_cases hca : a.count = 0
  · have e1 : ((a.count : Int) == 0) = true := by simp [hca]
    obtain ⟨n1, n2, n3⟩ := nA hca
    have HN : Hid (a.sum = 0) := n1
    clear nA nB n1 n2 n3
    go_enter Try.func12, Try.ntmps12
    go_wp2
    refine bodyPost_ret (v := aggV sf) ?_ rfl ⟨rfl, ((newB _ _ _).trans (newB _ _ _)).trans (newB _ _ _)⟩
    rw [HS.out]
    simp [results, Try.results12, go_sem, aggV, Ag.both, hca, HN.out]
  · have e1 : ((a.count : Int) == 0) = false := by simp only [beq_eq_false_iff_ne, ne_eq]; omega
    by_cases hcb : b.count = 0
    · have e2 : ((b.count : Int) == 0) = true := by simp [hcb]
      obtain ⟨n1, n2, n3⟩ := nB hcb
      have HN : Hid (b.sum = 0) := n1
      clear nA nB n1 n2 n3
      go_enter Try.func12, Try.ntmps12
      go_wp2
      refine bodyPost_ret (v := aggV sf) ?_ rfl ⟨rfl, ((newB _ _ _).trans (newB _ _ _)).trans (newB _ _ _)⟩
      rw [HS.out]
      simp [results, Try.results12, go_sem, aggV, Ag.both, hca, hcb, HN.out]
    · have e2 : ((b.count : Int) == 0) = false := by simp only [beq_eq_false_iff_ne, ne_eq]; omega
      clear nA nB
      go_enter Try.func12, Try.ntmps12
      go_wp2
      all_goals
        refine bodyPost_ret (v := aggV sf) ?_ rfl ⟨rfl, ((newB _ _ _).trans (newB _ _ _)).trans (newB _ _ _)⟩
        rw [HS.out]
        simp [results, Try.results12, go_sem, aggV, Ag.both, hca, hcb]
        omega

end Go.Proofs.Ythnocaiehhcdeab
