/- The law SyntaxPrints, walked. -/
import Derived.Test.YtfpmaeflmboalaaGreatDoorAwaA
import Derived.Test.YtfpmaeflmboalaaGreatDoorHeavyA
import Derived.Test.YtfpmaeflmboalaaGreatDoorWrqL
import Derived.Test.YtfpmaeflmboalaaGreatDoorLenK
namespace Go.Proofs.YtfpmaeflmboalaaGreatDoor
open Go.ChangeShapes Go.WideShapes Go.ChangeAt Go.RowKit
set_option linter.unusedVariables false
set_option linter.unusedSimpArgs false

theorem writ_size {e : Ex} (hf : e.fit) {t : List UInt8} (h : writA e = some t) : e.kids.size ≤ 2000 := by
  unfold writA at h
  split at h
  · cases h
  · split at h
    · cases h
    · rename_i c hc
      have := hE_ok hf hc
      omega
set_option maxRecDepth 100000 in
set_option maxHeartbeats 2000000 in
theorem prints_walk (e : Ex) (ao : Option Addr) (cap : Nat) (w : World) (hl : e.kids.len ≤ maxLen) (hw : e.kids.wide) (hf : e.kids.size ≤ 100000000 → e.fit) (S : SlA w e.kids ao) (FX : FixA w) :
    Calls Tryz.prog 4 #[exV e ao cap] w fun x w' => x = .returned (.bool true) ∧ Below w.heap.size w w' := by
  have B0 : Below w.heap.size w (w.alloc (.cells #[.int .i64 e.k, .int .i64 e.n, stv e.nm, .slice ao e.kids.len cap, .int .i64 e.a] 25)) := (Below.refl _ w).alloc (Nat.le_refl _) _
  have X0 : (w.alloc (.cells #[.int .i64 e.k, .int .i64 e.n, stv e.nm, .slice ao e.kids.len cap, .int .i64 e.a] 25)).heap[w.heap.size]? = some (.cells #[.int .i64 e.k, .int .i64 e.n, stv e.nm, .slice ao e.kids.len cap, .int .i64 e.a] 25) := heap_alloc_new w _
  have S0 := SlA.below S B0
  have FX0 := FX.below B0
  rw [exV_out]
  go_enter Tryz.func4, Tryz.ntmps4
  go_upto_region 1 with fail
  generalize w.alloc (.cells #[.int .i64 e.k, .int .i64 e.n, stv e.nm, .slice ao e.kids.len cap, .int .i64 e.a] 25) = w0 at *
  obtain ⟨bx, hbx⟩ : ∃ bx, bx = w.heap.size := ⟨_, rfl⟩
  rw [← hbx] at X0 B0 ⊢
  have HB : Hid (bx = w.heap.size) := hbx
  clear hbx S FX
  obtain ⟨p0, p1, p2, p3, p4, pf⟩ := box5 X0
  have c := heavy_r e ao cap w0 hl hw S0
  rw [exV_out] at c
  go_wp2_with fail
  refine c.mono ?_
  rintro x w1 ⟨rfl, bw⟩
  clear c p0 p1 p2 p3 p4 pf
  have B1 := B0.trans (bw.mono (by have := lt_of_block X0; omega))
  have X1 := (bw.block _ (lt_of_block X0)).trans X0
  have S1 := SlA.below S0 bw
  have FX1 := FX0.below bw
  clear bw B0 X0 S0 FX0
  cases h1 : heavyB e with
  | true =>
    go_wp2
    go_ret
    exact ⟨rfl, by rw [← HB.out]; exact B1⟩
  | false =>
  have z1 := light h1
  have f1 := hf (by omega)
  clear h1 hf
  obtain ⟨p0, p1, p2, p3, p4, pf⟩ := box5 X1
  have c := awake_r w1 FX1
  go_wp2_with fail
  refine c.mono ?_
  rintro x w2 ⟨rfl, bw⟩
  clear c p0 p1 p2 p3 p4 pf
  have B2 := B1.trans (bw.mono (by have := lt_of_block X1; omega))
  have X2 := (bw.block _ (lt_of_block X1)).trans X1
  have S2 := SlA.below S1 bw
  have FX2 := FX1.below bw
  clear bw B1 X1 S1 FX1
  have hsz : ∀ t, writA e = some t → e.kids.size ≤ 2000 := fun t ht => writ_size f1 ht
  have HSZ := Lib.hid hsz
  clear hsz
  obtain ⟨p0, p1, p2, p3, p4, pf⟩ := box5 X2
  have c := print_q e ao cap w2 f1 S2
  rw [exV_out] at c
  go_wp2_with fail
  refine c.mono ?_
  rintro x w3 ⟨rfl, bw⟩
  clear c p0 p1 p2 p3 p4 pf
  have B3 := B2.trans (bw.mono (by have := lt_of_block X2; omega))
  have X3 := (bw.block _ (lt_of_block X2)).trans X2
  have S3 := SlA.below S2 bw
  have FX3 := FX2.below bw
  clear bw B2 X2 S2 FX2
  cases hW : writA e with
  | none =>
    obtain ⟨p0, p1, p2, p3, p4, pf⟩ := box5 X3
    have c := print_r e ao cap w3 f1 FX3.fx S3
    rw [exV_out, hW] at c
    go_wp2_with fail
    refine c.mono ?_
    rintro x w4 ⟨rfl, bw⟩
    clear c p0 p1 p2 p3 p4 pf
    have B4 := B3.trans (bw.mono (by have := lt_of_block X3; omega))
    have X4 := (bw.block _ (lt_of_block X3)).trans X3
    have S4 := SlA.below S3 bw
    have FX4 := FX3.below bw
    clear bw B3 X3 S3 FX3
    obtain ⟨p0, p1, p2, p3, p4, pf⟩ := box5 X4
    have c := right_r e ao cap w4 f1 FX4.fx S4
    rw [exV_out, hW] at c
    go_wp2_with fail
    refine c.mono ?_
    rintro x w5 ⟨rfl, bw⟩
    clear c p0 p1 p2 p3 p4 pf
    have B5 := B4.trans (bw.mono (by have := lt_of_block X4; omega))
    have X5 := (bw.block _ (lt_of_block X4)).trans X4
    have S5 := SlA.below S4 bw
    have FX5 := FX4.below bw
    clear bw B4 X4 S4 FX4
    go_wp2
    go_ret
    exact ⟨rfl, by rw [← HB.out]; exact B5⟩
  | some t =>
  have hs9 := HSZ.out t hW
  have HWT : Hid (writA e = some t) := hW
  obtain ⟨p0, p1, p2, p3, p4, pf⟩ := box5 X3
  have c := lent_ok (e.kids.size + 1) e ao cap 4000 w3 (by omega) (by omega) (by omega) f1.len f1.sh S3
  rw [exV_out] at c
  go_wp2_with fail
  refine c.mono ?_
  rintro x w4 ⟨bl, cl, rfl, P3, bw⟩
  clear c p0 p1 p2 p3 p4 pf hW
  have B4 := B3.trans (bw.mono (by have := lt_of_block X3; omega))
  have X4 := (bw.block _ (lt_of_block X3)).trans X3
  have S4 := SlA.below S3 bw
  have FX4 := FX3.below bw
  clear bw B3 X3 S3 FX3
  have P4 : SpA w4 e.kids bl cl := P3.mono (fun _ _ _ => rfl) (Nat.le_refl _) (fun _ _ _ => trivial)
  clear P3
  have bw : Below w4.heap.size w4 (w4.alloc (.cells #[.int .i64 e.k, .int .i64 e.n, stv e.nm, .slice (some ⟨bl, 0, none⟩) e.kids.len cl, .int .i64 e.a] 25)) := (Below.refl _ w4).alloc (Nat.le_refl _) _
  have Y5 : (w4.alloc (.cells #[.int .i64 e.k, .int .i64 e.n, stv e.nm, .slice (some ⟨bl, 0, none⟩) e.kids.len cl, .int .i64 e.a] 25)).heap[w4.heap.size]? = some (.cells #[.int .i64 e.k, .int .i64 e.n, stv e.nm, .slice (some ⟨bl, 0, none⟩) e.kids.len cl, .int .i64 e.a] 25) := heap_alloc_new w4 _
  have P5 := SpA.below P4 bw
  have B5 := B4.trans (bw.mono (by have := lt_of_block X4; omega))
  have X5 := (bw.block _ (lt_of_block X4)).trans X4
  have S5 := SlA.below S4 bw
  have FX5 := FX4.below bw
  clear bw B4 X4 S4 FX4
  clear P4
  rw [exV_out]
  go_upto_region 10 with fail
  generalize w4.alloc (.cells #[.int .i64 e.k, .int .i64 e.n, stv e.nm, .slice (some ⟨bl, 0, none⟩) e.kids.len cl, .int .i64 e.a] 25) = w5 at *
  generalize w4.heap.size = bo at *
  obtain ⟨p0, p1, p2, p3, p4, pf⟩ := box5 X5
  obtain ⟨q0, q1, q2, q3, q4, qf⟩ := box5 Y5
  have c := print_r e (some ⟨bl, 0, none⟩) cl w5 f1 FX5.fx P5.sl
  rw [exV_out, HWT.out] at c
  go_wp2_with fail
  refine c.mono ?_
  rintro x w6 ⟨rfl, bw⟩
  clear c p0 p1 p2 p3 p4 pf q0 q1 q2 q3 q4 qf
  have B6 := B5.trans (bw.mono (by have := lt_of_block X5; omega))
  have X6 := (bw.block _ (lt_of_block X5)).trans X5
  have S6 := SlA.below S5 bw
  have FX6 := FX5.below bw
  have Y6 := (bw.block _ (lt_of_block Y5)).trans Y5
  have P6 := SpA.below P5 bw
  clear bw B5 X5 S5 FX5 Y5 P5
  obtain ⟨p0, p1, p2, p3, p4, pf⟩ := box5 X6
  obtain ⟨q0, q1, q2, q3, q4, qf⟩ := box5 Y6
  have c := right_r e (some ⟨bl, 0, none⟩) cl w6 f1 FX6.fx P6.sl
  rw [exV_out, HWT.out] at c
  go_wp2_with fail
  refine c.mono ?_
  rintro x w7 ⟨rfl, bw⟩
  clear c p0 p1 p2 p3 p4 pf q0 q1 q2 q3 q4 qf
  have B7 := B6.trans (bw.mono (by have := lt_of_block X6; omega))
  have X7 := (bw.block _ (lt_of_block X6)).trans X6
  have S7 := SlA.below S6 bw
  have FX7 := FX6.below bw
  have Y7 := (bw.block _ (lt_of_block Y6)).trans Y6
  have P7 := SpA.below P6 bw
  clear bw B6 X6 S6 FX6 Y6 P6
  obtain ⟨p0, p1, p2, p3, p4, pf⟩ := box5 X7
  obtain ⟨q0, q1, q2, q3, q4, qf⟩ := box5 Y7
  have c := kept_ok (e.kids.size + 1) e bl cl ao cap w7 (by omega) f1.len f1.sh P7 S7
  rw [exV_out, exV_out] at c
  go_wp2_with fail
  refine c.mono ?_
  rintro x w8 ⟨rfl, bw⟩
  clear c p0 p1 p2 p3 p4 pf q0 q1 q2 q3 q4 qf
  have B8 := B7.trans (bw.mono (by have := lt_of_block X7; omega))
  have X8 := (bw.block _ (lt_of_block X7)).trans X7
  have S8 := SlA.below S7 bw
  have FX8 := FX7.below bw
  have Y8 := (bw.block _ (lt_of_block Y7)).trans Y7
  have P8 := SpA.below P7 bw
  clear bw B7 X7 S7 FX7 Y7 P7
  obtain ⟨p0, p1, p2, p3, p4, pf⟩ := box5 X8
  obtain ⟨q0, q1, q2, q3, q4, qf⟩ := box5 Y8
  have c := print_r e (some ⟨bl, 0, none⟩) cl w8 f1 FX8.fx P8.sl
  rw [exV_out, HWT.out] at c
  go_wp2_with fail
  refine c.mono ?_
  rintro x w9 ⟨rfl, bw⟩
  clear c p0 p1 p2 p3 p4 pf q0 q1 q2 q3 q4 qf
  have B9 := B8.trans (bw.mono (by have := lt_of_block X8; omega))
  have X9 := (bw.block _ (lt_of_block X8)).trans X8
  have S9 := SlA.below S8 bw
  have FX9 := FX8.below bw
  have Y9 := (bw.block _ (lt_of_block Y8)).trans Y8
  have P9 := SpA.below P8 bw
  clear bw B8 X8 S8 FX8 Y8 P8
  go_wp2
  go_ret
  exact ⟨by first | rfl | simp, by rw [← HB.out]; exact B9⟩
end Go.Proofs.YtfpmaeflmboalaaGreatDoor
