/- The document's own Print and Right. -/
import Derived.Test.YtafnlhnenmpfoaaGreatDoorWrqK
namespace Go.Proofs.YtafnlhnenmpfoaaGreatDoor
open Go.ChangeShapes Go.WideShapes Go.ChangeAt Go.RowKit
set_option linter.unusedVariables false
set_option linter.unusedSimpArgs false

set_option maxRecDepth 100000 in
set_option maxHeartbeats 2000000 in
theorem print_q (e : Ex) (ao : Option Addr) (cap : Nat) (w : World) (he : e.fit) (S : SlT w e.kids ao) :
    Calls Tryz.prog 27 #[exV e ao cap] w (PostP w (writA e)) := by
  obtain ⟨w1, hw1⟩ : ∃ w1, w1 = (w.alloc (bxX e ao cap)).alloc (.cells #[.slice none 0 0, .int .i64 0, .int .i64 0, .bool true] 90) := ⟨_, rfl⟩
  obtain ⟨be, hbe⟩ : ∃ be, be = w.heap.size := ⟨_, rfl⟩
  obtain ⟨o1, ho1⟩ : ∃ o1 : Nat → Nat, o1 = fun k => if k = be + 1 then 1 else 0 := ⟨_, rfl⟩
  have B1 : Below be w w1 := by rw [hw1, hbe]; exact ((Below.refl _ w).alloc (Nat.le_refl _) _).alloc (by simp) _
  have E1 : w1.heap[be]? = some (bxX e ao cap) := by
    rw [hw1, hbe]
    exact (Below.heap_alloc _ _ _ (by simp)).trans (heap_alloc_new w _)
  have W1 : w1.heap[be + 1]? = some (.cells #[.slice none 0 0, .int .i64 0, .int .i64 0, .bool true] 90 (0, 0)) := by
    rw [hw1, hbe]
    have := heap_alloc_new (w.alloc (bxX e ao cap)) (.cells #[.slice none 0 0, .int .i64 0, .int .i64 0, .bool true] 90)
    simpa using this
  have L1 : ∀ k, k ≤ be → o1 k = 0 := fun k hk => by rw [ho1]; show (if k = be + 1 then 1 else 0) = 0; rw [if_neg (by omega)]
  have L2 : o1 (be + 1) = 1 := by rw [ho1]; show (if be + 1 = be + 1 then 1 else 0) = 1; rw [if_pos rfl]
  have Q1 : WQ w1 o1 (be + 1) (some ⟨[], 0, 0⟩) := ⟨⟨.slice none 0 0, ⟨W1, L2⟩, Row.nil _ _ _ _ _⟩, by simp, by simp, by simp⟩
  have S1 : Sl w1 (L0 o1) e.kids ao := S.mono (fun i _ hl => B1.block i (by rw [hbe]; exact hl)) B1.size (fun i _ hl => L1 i (by omega))
  have c2 := wpart_all (e.kids.size + 1) e ao cap false (be + 1) _ w1 o1 (Nat.lt_succ_self _) he S1 Q1
  obtain ⟨R, hR⟩ : ∃ R, R = oEx e false (some ⟨[], 0, 0⟩) := ⟨_, rfl⟩
  rw [← hR] at c2
  have HR : Hid (writA e = R.map (·.t)) := by show _ = _; rw [← refA_eq, hR]; rfl
  obtain ⟨W, hW⟩ : ∃ W, W = writA e := ⟨_, rfl⟩
  rw [← hW] at HR ⊢
  obtain ⟨p0, p1, p2, p3, p4, pf⟩ := box5 E1
  rw [exV_out] at c2 ⊢
  clear S ho1 Q1 S1 hR hW
  go_enter Tryz.func27, Tryz.ntmps27
  go_upto_region 2 with fail
  rw [← hw1, ← hbe]
  have HB : Hid (be = w.heap.size) := hbe
  clear hw1 hbe W1
  go_wp2_with fail
  refine c2.mono ?_
  rintro e2 w2 ⟨rfl, o2, Q2, s2⟩
  have B2 : Below be w w2 := below_stepB B1 s2 (fun k hk hi => by rw [L1 k (by omega)] at hi; rcases hi with h | h <;> omega) (by rw [HB.out]; exact Nat.le_refl _)
  have B3 : Hid (Below w.heap.size w w2) := by show Below w.heap.size w w2; rw [← HB.out]; exact B2
  clear c2 s2 B1 B2 L1 L2 p0 p1 p2 p3 p4 pf E1 HB
  cases R with
  | none =>
    obtain ⟨c3, cf, -, -⟩ := Q2.end
    have c3 : w2.cell? ⟨be + 1, 3, none⟩ = some (.bool false) := c3
    have FIN : Hid (W = none) := HR.out
    clear HR Q2
    go_wp2
    go_ret2
    exact ⟨by rw [FIN.out]; rfl, B3.out⟩
  | some s =>
    obtain ⟨c3, cf, -, -⟩ := Q2.end
    have c3 : w2.cell? ⟨be + 1, 3, none⟩ = some (.bool true) := c3
    obtain ⟨⟨v, hb, hr⟩, -⟩ := Q2
    obtain ⟨d0, d1, d2, d3, df⟩ := Blk.cells4 hb
    have F := row_text hr
    obtain ⟨aov, capv, rfl⟩ := hr.form
    have FIN : Hid (W = some s.t) := HR.out
    clear HR hb hr d1 d2 d3
    go_wp2
    go_ret2
    exact ⟨by rw [FIN.out]; rfl, B3.out⟩
set_option maxRecDepth 100000 in
theorem right_q (e : Ex) (ao : Option Addr) (cap : Nat) (w : World) (he : e.fit) (S : SlT w e.kids ao) :
    Calls Tryz.prog 15 #[exV e ao cap] w fun x w' => x = .returned (.bool (writA e).isSome) ∧ Below w.heap.size w w' := by
  have B0 : Below w.heap.size w (w.alloc (bxX e ao cap)) := (Below.refl _ w).alloc (Nat.le_refl _) _
  have E0 : (w.alloc (bxX e ao cap)).heap[w.heap.size]? = some (bxX e ao cap) := heap_alloc_new w _
  have c1 := print_q e ao cap (w.alloc (bxX e ao cap)) he (SlT.below S B0)
  obtain ⟨p0, p1, p2, p3, p4, pf⟩ := box5 E0
  rw [exV_out] at c1 ⊢
  generalize writA e = W at *
  go_enter Tryz.func15, Tryz.ntmps15
  go_wp2_with fail
  refine c1.mono ?_
  rintro e2 w1 ⟨rfl, b1⟩
  have B1 := B0.trans (b1.mono B0.size)
  clear c1 p0 p1 p2 p3 p4 pf E0
  cases W with
  | none =>
    go_wp2
    go_ret
    exact ⟨rfl, B1⟩
  | some t =>
    go_wp2
    go_ret
    exact ⟨rfl, B1⟩
end Go.Proofs.YtafnlhnenmpfoaaGreatDoor
