/- Whatever a script's call changes, both forests answer alike. -/
import Derived.Test.YthdmajddmajjoaaSideY
import Derived.Test.YthdmajddmajjoaaSideZ
namespace Go.Proofs.Ythdmajddmajjoaa
open Go.ChangeShapes Go.WideShapes Go.ChangeAt Go.RowKit
set_option linter.unusedVariables false

theorem changes_ok {w : World} {o : Nat → Nat} {D ps p q room M : Nat} {s : Sta} {va vw : Value} (h : Sd w o D ps p q room M s va vw) (hM : M < 5500000000000) (hr : room ≤ 1024) (u : OpX) :
    ∃ t, Calls Try.prog 7 #[pv ps, opxV u] w fun e w' => e = .returned (.bool true) ∧ ∃ o', Sd w' o' D ps p q room (M + 1) t va vw ∧ Step (SDL D) w o w' o' := by
  by_cases h1 : u.kd = 1
  · obtain ⟨m, r, t, A, X⟩ := makeBoth h.f hM hr u.v u.c u.f; exact ⟨t, chg1 h u m r h1 A X⟩
  by_cases h2 : u.kd = 2
  · obtain ⟨r, t, A, X⟩ := freeBoth h.f hM u.a; exact ⟨t, chg2 h u r h2 A X⟩
  by_cases h4 : u.kd = 4
  · obtain ⟨r, t, A, X⟩ := setBoth h.f hM u.a u.v u.c u.f; exact ⟨t, chg4 h u r h4 A X⟩
  by_cases h5 : u.kd = 5
  · obtain ⟨r, t, A, X⟩ := joinBoth h.f hM u.a u.b; exact ⟨t, chg5 h u r h5 A X⟩
  by_cases h6 : u.kd = 6
  · obtain ⟨r, t, A, X⟩ := splitBoth h.f hM u.a; exact ⟨t, chg6 h u r h6 A X⟩
  exact ⟨s, chgNo h hM u h1 h2 h4 h5 h6⟩
end Go.Proofs.Ythdmajddmajjoaa
