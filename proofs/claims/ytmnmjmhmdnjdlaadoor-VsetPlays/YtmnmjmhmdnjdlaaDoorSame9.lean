/- Two rows of the same numbers are the same; what the book of VsetPlays holds. -/
import Derived.Test.YtmnmjmhmdnjdlaaDoorLst9
namespace Go.Proofs.YtmnmjmhmdnjdlaaDoor
open Go.ChangeShapes Go.WideShapes Go.ChangeAt Go.RowKit Go.Maps
set_option linter.unusedVariables false
set_option linter.unusedSimpArgs false

set_option maxHeartbeats 1000000 in
theorem same_yes (w : World) (o o2 : Nat → Nat) (La Lb n : Nat) (l : List Nat) (va vb : Value) (hl : l.length = n) (hn : n ≤ 5000) (ha : Row w o La 3 1 va n (intsL l)) (hb : Row w o2 Lb 3 1 vb n (intsL l)) :
    Calls Tryd.prog 10 #[va, vb] w fun e w' => e = .returned (.bool true) ∧ ∃ m, w' = w.drewN m := by
  obtain ⟨aa, ca, rfl⟩ := ha.form
  obtain ⟨ab, cb, rfl⟩ := hb.form
  have HL : Hid (l.length = n) := hl
  clear hl
  go_enter Tryd.func10, Tryd.ntmps10
  go_wp2
  go_loopw [5] (fun i wr => ∃ k : Nat, k ≤ n ∧ i = .int .i64 k ∧ ∃ m, wr = w.drewN m) (fun i _ => n - (intOf i).toNat)
  case atStart => exact ⟨0, by omega, by go_num, 0, rfl⟩
  case round =>
    obtain ⟨k, hk, rfl, m, rfl⟩ := hrel
    by_cases hlt : k < n
    · obtain ⟨ga, ca', hv, _, hca, hma, _, hcla, _⟩ := ha.pos (by omega)
      simp only [Value.slice.injEq, true_and] at hv
      obtain ⟨rfl, rfl⟩ := hv
      obtain ⟨gb, cb', hv, _, hcb, hmb, _, hclb, _⟩ := hb.pos (by omega)
      simp only [Value.slice.injEq, true_and] at hv
      obtain ⟨rfl, rfl⟩ := hv
      have hkl : k < l.length := by rw [HL.out]; exact hlt
      have cA := (hcla k (by omega)).trans (intsL_get l k hkl)
      have cB := (hclb k (by omega)).trans (intsL_get l k hkl)
      unfold maxLen at hma hmb
      clear hcla hclb
      go_wp2
      go_quiet (fail)
      go_wp2
      go_roundw
      case rel => (try ((repeat apply Exists.intro); refine ⟨?_, rfl⟩)); exact ⟨k + 1, by omega, by go_num, _, rfl⟩
      case measure => simp [intOf]; omega
    · obtain rfl : k = n := by omega
      go_wp2
      go_ret
      exact ⟨rfl, _, rfl⟩

/-- All that the book holds. -/
def BX (w : World) (o : Nat → Nat) (p : Nat) : Prop := ∃ S ava cva avw cvw als wls ls N, Bk w p S S (.slice ava N cva) (.slice avw N cvw) ∧ o p = 1 ∧ (∀ i, i < 4 → S i < top64) ∧ Row w o 2 37 1 (.slice ava N cva) N als ∧ Row w o 3 37 1 (.slice avw N cvw) N wls ∧ Lists w o als wls ls ∧ ls.length = N ∧ TzL w o
theorem Bk.lab {w : World} {p : Nat} {S X : Nat → Nat} {va vw : Value} (h : Bk w p S X va vw) {I : Nat → Prop} {w' : World} {o o' : Nat → Nat} (s : Step I w o w' o') : o' p = o p := s.lab p h.lt
end Go.Proofs.YtmnmjmhmdnjdlaaDoor
