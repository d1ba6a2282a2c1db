/- Link with an ID that is there; Path between two trees. -/
import Derived.Test.YtddjaldamfileaaJoin5
namespace Go.Proofs.Ytddjaldamfileaa
open Go.ChangeShapes Go.WideShapes Go.ChangeAt Go.RowKit Go.Maps
set_option linter.unusedVariables false

theorem link_twice (w : World) (o : Nat → Nat) (L p n : Nat) (ed : Nat → Option Ed) (R : Nat → List Nat) (m u v i : Nat) (wt : Int) (X : Tx w o L p n ed R m) (hu : u < n) (hv : v < n) (hi : i ≤ 1099511627776) (hw : -1099511627776 ≤ wt ∧ wt ≤ 1099511627776) (ni : (ed i).isSome = true) :
    Calls Try.prog 15 #[.pointer (some ⟨p, 0, none⟩), .int .i64 u, .int .i64 v, .int .i64 (i : Nat), .int .i64 wt] w fun e w' => e = .returned (.int .i64 52) ∧ Tx w' o L p n ed R m ∧ Step (TL L) w o w' o := by
  have hc := same_in w o L p n ed R m u v X hu hv
  have d1 : decide ((i : Int) < 0) = false := decide_eq_false (by omega)
  have d2 : decide ((1099511627776 : Int) < (i : Int)) = false := decide_eq_false (by omega)
  have d3 : decide (wt < (-1099511627776 : Int)) = false := decide_eq_false (by omega)
  have d4 : decide ((1099511627776 : Int) < wt) = false := decide_eq_false (by omega)
  have i64 : In64 (i : Nat) := ⟨by omega, by omega⟩
  generalize decide ((R (2 * u + 1)).head? = (R (2 * v + 1)).head?) = bb at hc
  clear X
  go_enter Try.func15, Try.ntmps15
  go_wp2_with fail
  refine hc.mono ?_
  rintro e w1 ⟨rfl, X1, s1⟩
  clear hc
  have X2 := X1
  obtain ⟨X0, pt, bv, cap, bm, TB, F⟩ := X1
  obtain ⟨c0, c1, _⟩ := TB.cells
  have hl := TB.2.2.look (i : Nat) i64
  rw [edF_some ni] at hl
  simp only [ptrV] at hl
  clear TB F
  go_wp2
  go_ret
  exact ⟨rfl, X2, s1⟩

theorem path_none (w : World) (o : Nat → Nat) (L p n : Nat) (ed : Nat → Option Ed) (R : Nat → List Nat) (m u v : Nat) (X : Tx w o L p n ed R m) (hu : u < n) (hv : v < n) (hd : (R (2 * u + 1)).head? ≠ (R (2 * v + 1)).head?) :
    Calls Try.prog 20 #[.pointer (some ⟨p, 0, none⟩), .int .i64 u, .int .i64 v] w fun e w' => e = .returned (.tuple #[.slice none 0 0, .int .i64 54]) ∧ Tx w' o L p n ed R m ∧ Step (TL L) w o w' o := by
  have hc := joined_in w o L p n ed R m u v X hu hv
  rw [if_neg hd] at hc
  clear X
  go_enter Try.func20, Try.ntmps20
  go_wp2_with fail
  refine hc.mono ?_
  rintro e w1 ⟨rfl, X1, s1⟩
  clear hc
  go_wp2
  go_ret2
  exact ⟨rfl, X1, s1⟩

end Go.Proofs.Ytddjaldamfileaa
