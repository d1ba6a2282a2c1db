/- VsetPlays: a step of another Kind makes nothing. -/
import Derived.Test.YtmnmjmhmdnjdlaaDoorMake1
namespace Go.Proofs.YtmnmjmhmdnjdlaaDoor
open Go.ChangeShapes Go.WideShapes Go.ChangeAt Go.RowKit Go.Maps
set_option linter.unusedVariables false

set_option maxRecDepth 100000 in
set_option maxHeartbeats 8000000 in
theorem makes_x (w : World) (o : Nat → Nat) (p : Nat) (S : Nat → Nat) (va vw : Value) (h : Bk w p S S va vw) (hS : ∀ i, i < 4 → S i < top64) (kd b c n : Int) (h1 : ¬ kd = 1) (h2 : ¬ kd = 2) (h3 : ¬ kd = 3) (h4 : ¬ kd = 4) (h5 : ¬ kd = 5) (h6 : ¬ kd = 6) (hb1 : -9223372036854775808 ≤ b) (hb2 : b ≤ 9223372036854775807) (hc1 : -9223372036854775808 ≤ c) (hc2 : c ≤ 9223372036854775807) (ao : Option Addr) (len cap : Nat) :
    Calls Tryd.prog 5 #[.pointer (some ⟨p, 0, none⟩), .agg #[.int .i64 kd, .int .i64 b, .int .i64 c, .int .i64 n, .slice ao len cap]] w fun e w' => MkOut w o p va vw e w' := by
  have B1 : Below w.heap.size w (w.alloc (.cells #[.int .i64 kd, .int .i64 b, .int .i64 c, .int .i64 n, .slice ao len cap] 39)) := bal (b0 w) _
  have HR : Hid (MkOut w o p va vw (.returned (.bool true)) (w.alloc (.cells #[.int .i64 kd, .int .i64 b, .int .i64 c, .int .i64 n, .slice ao len cap] 39))) := ⟨S, rfl, h.below B1, hS, Step.ofBelow o B1⟩
  have hp1 := fun wx => pick_c b 4 wx hb1 hb2 (by omega) (by omega)
  have hp2 := fun wx => pick_c c 4 wx hc1 hc2 (by omega) (by omega)
  clear h B1 hS
  go_enter Tryd.func5, Tryd.ntmps5
  go_wp2_with fail
  refine (hp1 _).mono ?_
  rintro e w2 ⟨rfl, rfl⟩
  go_wp2_with fail
  refine (hp2 _).mono ?_
  rintro e w3 ⟨rfl, rfl⟩
  clear hp1 hp2
  go_wp2
  go_ret
  exact HR.out
end Go.Proofs.YtmnmjmhmdnjdlaaDoor
