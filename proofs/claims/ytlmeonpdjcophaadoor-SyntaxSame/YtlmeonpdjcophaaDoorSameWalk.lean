/- The law SyntaxSame, walked. -/
import Derived.Test.YtlmeonpdjcophaaDoorAwaA
import Derived.Test.YtlmeonpdjcophaaDoorRefSame
namespace Go.Proofs.YtlmeonpdjcophaaDoor
open Go.ChangeShapes Go.WideShapes Go.ChangeAt Go.RowKit
set_option linter.unusedVariables false
set_option linter.unusedSimpArgs false

set_option maxRecDepth 100000 in
set_option maxHeartbeats 2000000 in
theorem same_walk (e e2 : Ex) (ao ao2 : Option Addr) (cap cap2 : Nat) (w : World) (hl : e.kids.len ≤ maxLen) (hw : e.kids.wide) (hf : e.kids.size ≤ 100000000 → e.fit) (hl2 : e2.kids.len ≤ maxLen) (hw2 : e2.kids.wide) (hf2 : e2.kids.size ≤ 100000000 → e2.fit) (S : SlA w e.kids ao) (S2 : SlA w e2.kids ao2) (FX : FixA w) :
    Calls Tryd.prog 3 #[exV e ao cap, exV e2 ao2 cap2] w fun x w' => x = .returned (.bool true) ∧ Below w.heap.size w w' := by
  have B0 : Below w.heap.size w ((w.alloc (.cells #[.int .i64 e.k, .int .i64 e.n, stv e.nm, .slice ao e.kids.len cap, .int .i64 e.a] 24)).alloc (.cells #[.int .i64 e2.k, .int .i64 e2.n, stv e2.nm, .slice ao2 e2.kids.len cap2, .int .i64 e2.a] 24)) := ((Below.refl _ w).alloc (Nat.le_refl _) _).alloc (by simp) _
  have X0 : ((w.alloc (.cells #[.int .i64 e.k, .int .i64 e.n, stv e.nm, .slice ao e.kids.len cap, .int .i64 e.a] 24)).alloc (.cells #[.int .i64 e2.k, .int .i64 e2.n, stv e2.nm, .slice ao2 e2.kids.len cap2, .int .i64 e2.a] 24)).heap[w.heap.size]? = some (.cells #[.int .i64 e.k, .int .i64 e.n, stv e.nm, .slice ao e.kids.len cap, .int .i64 e.a] 24) := (Below.heap_alloc _ _ _ (by simp)).trans (heap_alloc_new w _)
  have Y0 : ((w.alloc (.cells #[.int .i64 e.k, .int .i64 e.n, stv e.nm, .slice ao e.kids.len cap, .int .i64 e.a] 24)).alloc (.cells #[.int .i64 e2.k, .int .i64 e2.n, stv e2.nm, .slice ao2 e2.kids.len cap2, .int .i64 e2.a] 24)).heap[w.heap.size + 1]? = some (.cells #[.int .i64 e2.k, .int .i64 e2.n, stv e2.nm, .slice ao2 e2.kids.len cap2, .int .i64 e2.a] 24) := by
    have := heap_alloc_new (w.alloc (.cells #[.int .i64 e.k, .int .i64 e.n, stv e.nm, .slice ao e.kids.len cap, .int .i64 e.a] 24)) (.cells #[.int .i64 e2.k, .int .i64 e2.n, stv e2.nm, .slice ao2 e2.kids.len cap2, .int .i64 e2.a] 24)
    simpa using this
  have S0 := SlA.below S B0
  have T0 := SlA.below S2 B0
  have FX0 := FX.below B0
  rw [exV_out, exV_out]
  go_enter Tryd.func3, Tryd.ntmps3
  go_upto_region 1 with fail
  generalize (w.alloc (.cells #[.int .i64 e.k, .int .i64 e.n, stv e.nm, .slice ao e.kids.len cap, .int .i64 e.a] 24)).alloc (.cells #[.int .i64 e2.k, .int .i64 e2.n, stv e2.nm, .slice ao2 e2.kids.len cap2, .int .i64 e2.a] 24) = w0 at *
  obtain ⟨bx, hbx⟩ : ∃ bx, bx = w.heap.size := ⟨_, rfl⟩
  rw [← hbx] at X0 Y0 B0 ⊢
  have HB : Hid (bx = w.heap.size) := hbx
  clear hbx S S2 FX
  obtain ⟨p0, p1, p2, p3, p4, pf⟩ := box5 X0
  obtain ⟨q0, q1, q2, q3, q4, qf⟩ := box5 Y0
  have c := heavy_r e ao cap w0 hl hw S0
  rw [exV_out] at c
  go_wp2_with fail
  refine c.mono ?_
  rintro x w1 ⟨rfl, bw⟩
  clear c p0 p1 p2 p3 p4 pf q0 q1 q2 q3 q4 qf
  have B1 := B0.trans (bw.mono (by have := lt_of_block X0; omega))
  have X1 := (bw.block _ (lt_of_block X0)).trans X0
  have Y1 := (bw.block _ (lt_of_block Y0)).trans Y0
  have S1 := SlA.below S0 bw
  have T1 := SlA.below T0 bw
  have FX1 := FX0.below bw
  clear bw B0 X0 Y0 S0 T0 FX0
  cases h1 : heavyB e with
  | true =>
    go_wp2
    go_ret
    exact ⟨rfl, by rw [← HB.out]; exact B1⟩
  | false =>
  obtain ⟨p0, p1, p2, p3, p4, pf⟩ := box5 X1
  obtain ⟨q0, q1, q2, q3, q4, qf⟩ := box5 Y1
  have c := heavy_r e2 ao2 cap2 w1 hl2 hw2 T1
  rw [exV_out] at c
  go_wp2_with fail
  refine c.mono ?_
  rintro x w2 ⟨rfl, bw⟩
  clear c p0 p1 p2 p3 p4 pf q0 q1 q2 q3 q4 qf
  have B2 := B1.trans (bw.mono (by have := lt_of_block X1; omega))
  have X2 := (bw.block _ (lt_of_block X1)).trans X1
  have Y2 := (bw.block _ (lt_of_block Y1)).trans Y1
  have S2 := SlA.below S1 bw
  have T2 := SlA.below T1 bw
  have FX2 := FX1.below bw
  clear bw B1 X1 Y1 S1 T1 FX1
  cases h2 : heavyB e2 with
  | true =>
    go_wp2
    go_ret
    exact ⟨rfl, by rw [← HB.out]; exact B2⟩
  | false =>
  have z1 := light h1
  have z2 := light h2
  have f1 := hf (by omega)
  have f2 := hf2 (by omega)
  clear h1 h2 hf hf2
  obtain ⟨p0, p1, p2, p3, p4, pf⟩ := box5 X2
  obtain ⟨q0, q1, q2, q3, q4, qf⟩ := box5 Y2
  have c := awake_r w2 FX2
  go_wp2_with fail
  refine c.mono ?_
  rintro x w3 ⟨rfl, bw⟩
  clear c p0 p1 p2 p3 p4 pf q0 q1 q2 q3 q4 qf
  have B3 := B2.trans (bw.mono (by have := lt_of_block X2; omega))
  have X3 := (bw.block _ (lt_of_block X2)).trans X2
  have Y3 := (bw.block _ (lt_of_block Y2)).trans Y2
  have S3 := SlA.below S2 bw
  have T3 := SlA.below T2 bw
  have FX3 := FX2.below bw
  clear bw B2 X2 Y2 S2 T2 FX2
  obtain ⟨p0, p1, p2, p3, p4, pf⟩ := box5 X3
  obtain ⟨q0, q1, q2, q3, q4, qf⟩ := box5 Y3
  have c := same_ok (e.kids.size + 1) e e2 ao ao2 cap cap2 w3 (by omega) f1.len f1.sh f2.len f2.sh S3 T3
  rw [exV_out, exV_out] at c
  go_wp2_with fail
  refine c.mono ?_
  rintro x w4 ⟨rfl, bw⟩
  clear c p0 p1 p2 p3 p4 pf q0 q1 q2 q3 q4 qf
  have B4 := B3.trans (bw.mono (by have := lt_of_block X3; omega))
  have X4 := (bw.block _ (lt_of_block X3)).trans X3
  have Y4 := (bw.block _ (lt_of_block Y3)).trans Y3
  have S4 := SlA.below S3 bw
  have T4 := SlA.below T3 bw
  have FX4 := FX3.below bw
  clear bw B3 X3 Y3 S3 T3 FX3
  obtain ⟨p0, p1, p2, p3, p4, pf⟩ := box5 X4
  obtain ⟨q0, q1, q2, q3, q4, qf⟩ := box5 Y4
  have c := same_ok (e.kids.size + 1) e e ao ao cap cap w4 (by omega) f1.len f1.sh f1.len f1.sh S4 S4
  rw [exV_out] at c
  go_wp2_with fail
  refine c.mono ?_
  rintro x w5 ⟨rfl, bw⟩
  clear c p0 p1 p2 p3 p4 pf q0 q1 q2 q3 q4 qf
  have B5 := B4.trans (bw.mono (by have := lt_of_block X4; omega))
  have X5 := (bw.block _ (lt_of_block X4)).trans X4
  have Y5 := (bw.block _ (lt_of_block Y4)).trans Y4
  have S5 := SlA.below S4 bw
  have T5 := SlA.below T4 bw
  have FX5 := FX4.below bw
  clear bw B4 X4 Y4 S4 T4 FX4
  rw [sameE_self]
  obtain ⟨p0, p1, p2, p3, p4, pf⟩ := box5 X5
  obtain ⟨q0, q1, q2, q3, q4, qf⟩ := box5 Y5
  have c := refsame_ok (e.kids.size + 1) e e2 ao ao2 cap cap2 w5 (by omega) f1.len f1.sh f2.len f2.sh S5 T5
  rw [exV_out, exV_out] at c
  go_wp2_with fail
  refine c.mono ?_
  rintro x w6 ⟨rfl, bw⟩
  clear c p0 p1 p2 p3 p4 pf q0 q1 q2 q3 q4 qf
  have B6 := B5.trans (bw.mono (by have := lt_of_block X5; omega))
  have X6 := (bw.block _ (lt_of_block X5)).trans X5
  have Y6 := (bw.block _ (lt_of_block Y5)).trans Y5
  have S6 := SlA.below S5 bw
  have T6 := SlA.below T5 bw
  have FX6 := FX5.below bw
  clear bw B5 X5 Y5 S5 T5 FX5
  have hcc : ∀ cc : Bool, (cc == cc) = true := fun cc => by simp
  obtain ⟨p0, p1, p2, p3, p4, pf⟩ := box5 X6
  obtain ⟨q0, q1, q2, q3, q4, qf⟩ := box5 Y6
  have c := same_ok (e2.kids.size + 1) e2 e ao2 ao cap2 cap w6 (by omega) f2.len f2.sh f1.len f1.sh T6 S6
  rw [exV_out, exV_out] at c
  go_wp2_with fail
  refine c.mono ?_
  rintro x w7 ⟨rfl, bw⟩
  clear c p0 p1 p2 p3 p4 pf q0 q1 q2 q3 q4 qf
  have B7 := B6.trans (bw.mono (by have := lt_of_block X6; omega))
  have X7 := (bw.block _ (lt_of_block X6)).trans X6
  have Y7 := (bw.block _ (lt_of_block Y6)).trans Y6
  have S7 := SlA.below S6 bw
  have T7 := SlA.below T6 bw
  have FX7 := FX6.below bw
  clear bw B6 X6 Y6 S6 T6 FX6
  rw [sameE_sym e2 e]
  generalize sameE e e2 = cc at *
  cases cc
  all_goals
    go_wp2
    go_ret
    exact ⟨rfl, by rw [← HB.out]; exact B7⟩
end Go.Proofs.YtlmeonpdjcophaaDoor
