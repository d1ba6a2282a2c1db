/- Of, where it refuses. -/
import Derived.Test.YtanahbkkgppfnaaAns8
import Derived.Test.YtanahbkkgppfnaaRight2
import Derived.Deep.RegionHeld3
import Derived.Deep.LoopGhost
namespace Go.Proofs.Ytanahbkkgppfnaa
open Go.ChangeShapes Go.WideShapes Go.ChangeAt Go.RowKit
set_option linter.unusedVariables false
set_option linter.unusedSimpArgs false

theorem of_arg (w : World) (n : Int) (al : Option Addr) (len cl : Nat) (hn0 : -9223372036854775808 ≤ n) (hn9 : n ≤ 9223372036854775807) (hl : len ≤ 1000000) (h : n < 1 ∨ 64 < n ∨ 192 < len) :
    Calls Try.prog 7 #[.int .i64 n, .slice al len cl] w fun e w' => e = .returned (.tuple #[.pointer none, .int .i64 1]) ∧ w' = w := by
  by_cases h1 : n < 1
  · clear h
    go_enter Try.func7, Try.ntmps7
    go_wp2
    go_ret2
    exact ⟨rfl, rfl⟩
  · by_cases h2 : 64 < n
    · clear h
      go_enter Try.func7, Try.ntmps7
      go_wp2
      go_ret2
      exact ⟨rfl, rfl⟩
    · have h3 : (192 : Int) < (len : Int) := by omega
      clear h
      go_enter Try.func7, Try.ntmps7
      go_wp2
      go_ret2
      exact ⟨rfl, rfl⟩
end Go.Proofs.Ytanahbkkgppfnaa
