/- VsetPlays: a step of another Kind asks nothing. -/
import Derived.Test.YtmnmjmhmdnjdlaaDoorSame9
import Derived.Test.YtmnmjmhmdnjdlaaDoorMakeB
namespace Go.Proofs.YtmnmjmhmdnjdlaaDoor
open Go.ChangeShapes Go.WideShapes Go.ChangeAt Go.RowKit Go.Maps
set_option linter.unusedVariables false
set_option linter.unusedSimpArgs false

set_option maxRecDepth 100000 in
set_option maxHeartbeats 8000000 in
theorem asks_x (w : World) (o : Nat → Nat) (p : Nat) (S : Nat → Nat) (va vw : Value) (h : Bk w p S S va vw) (hS : ∀ i, i < 4 → S i < top64) (hT : TzL w o) (b c n : Int) (hb1 : -9223372036854775808 ≤ b) (hb2 : b ≤ 9223372036854775807) (hc1 : -9223372036854775808 ≤ c) (hc2 : c ≤ 9223372036854775807) (hn1 : -9223372036854775808 ≤ n) (hn2 : n ≤ 9223372036854775807) (ao : Option Addr) (len cap : Nat) (kd : Int) (h7 : ¬ kd = 7) (h8 : ¬ kd = 8) (h9 : ¬ kd = 9) (h10 : ¬ kd = 10) (h11 : ¬ kd = 11) :
    Calls Tryd.prog 6 #[.pointer (some ⟨p, 0, none⟩), .agg #[.int .i64 kd, .int .i64 b, .int .i64 c, .int .i64 n, .slice ao len cap]] w fun e w' => e = .returned (.bool true) ∧ ∃ o', Step (fun k => k = 99) w o w' o' := by
  have B1 : Below w.heap.size w (w.alloc (.cells #[.int .i64 kd, .int .i64 b, .int .i64 c, .int .i64 n, .slice ao len cap] 39)) := bal (b0 w) _
  have K1 := h.below B1
  have S1 : Step (fun k => k = 99) w o _ o := Step.ofBelow o B1
  have T1 := hT.step S1 (by omega)
  have e3 : (w.alloc (.cells #[.int .i64 kd, .int .i64 b, .int .i64 c, .int .i64 n, .slice ao len cap] 39)).heap[w.heap.size]? = some (.cells #[.int .i64 kd, .int .i64 b, .int .i64 c, .int .i64 n, .slice ao len cap] 39 (0, 0)) := heap_alloc_new w _
  have hp1 := fun wx => pick_c b 4 wx hb1 hb2 (by omega) (by omega)
  have hp2 := fun wx => pick_c c 4 wx hc1 hc2 (by omega) (by omega)
  have hi := pk_lt b 4 (by omega)
  have hk := pk_lt c 4 (by omega)
  generalize pk b 4 = i at hp1 hi
  generalize pk c 4 = k at hp2 hk
  have hiI : (i : Int) < 4 := by omega
  have hkI : (k : Int) < 4 := by omega
  have hSi := hS i hi
  clear h B1 hT
  go_enter Tryd.func6, Tryd.ntmps6
  go_upto_region 1 with fail
  obtain ⟨b3, hb3⟩ : ∃ b3, b3 = w.heap.size := ⟨_, rfl⟩
  rw [← hb3] at e3 ⊢
  generalize w.alloc (.cells #[.int .i64 kd, .int .i64 b, .int .i64 c, .int .i64 n, .slice ao len cap] 39) = w1 at K1 S1 T1 e3 ⊢
  clear hb3
  have c0 : w1.cell? ⟨b3, 0, none⟩ = some (.int .i64 kd) := by simp [cell_of_row w1 b3 _ _ _ (0, 0) e3]
  have c1 : w1.cell? ⟨b3, 1, none⟩ = some (.int .i64 b) := by simp [cell_of_row w1 b3 _ _ _ (0, 0) e3]
  have c2 : w1.cell? ⟨b3, 2, none⟩ = some (.int .i64 c) := by simp [cell_of_row w1 b3 _ _ _ (0, 0) e3]
  have x3 : w1.cell? ⟨b3, 3, none⟩ = some (.int .i64 n) := by simp [cell_of_row w1 b3 _ _ _ (0, 0) e3]
  clear e3
  go_wp2_with fail
  refine (hp1 _).mono ?_
  rintro e w2 ⟨rfl, rfl⟩
  go_wp2_with fail
  refine (hp2 _).mono ?_
  rintro e w3 ⟨rfl, rfl⟩
  clear hp1 hp2
  go_wp2
  go_ret
  exact ⟨rfl, _, S1⟩
end Go.Proofs.YtmnmjmhmdnjdlaaDoor
