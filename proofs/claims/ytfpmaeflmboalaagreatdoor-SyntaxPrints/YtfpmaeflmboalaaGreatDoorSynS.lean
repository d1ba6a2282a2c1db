/- Parse. -/
import Derived.Test.YtfpmaeflmboalaaGreatDoorSynQ
import Derived.Test.YtfpmaeflmboalaaGreatDoorSynR
namespace Go.Proofs.YtfpmaeflmboalaaGreatDoor
open Go.ChangeShapes Go.WideShapes Go.ChangeAt Go.RowKit
set_option linter.unusedVariables false
set_option linter.unusedSimpArgs false

set_option maxRecDepth 100000 in
set_option maxHeartbeats 1000000 in
theorem parse_r (s : ByteArray) (w : World) (hW : Wd w) (hE : Ers w) (hB : Tb3 w) (hs : s.size ≤ maxLen) :
    Calls Tryz.prog 7 #[.string s] w (PostR w (parseA s.data.toList)) := by
  obtain ⟨W, hPW⟩ : ∃ W, W = parseA s.data.toList := ⟨_, rfl⟩
  rw [← hPW]
  have HW : Hid (W = parseA s.data.toList) := hPW
  have hn : W ≠ .out := by rw [hPW]; exact parse_fine _
  have B0 : Below w.heap.size w (w.alloc exZ) := (Below.refl _ w).alloc (Nat.le_refl _) _
  have Z0 : (w.alloc exZ).heap[w.heap.size]? = some exZ := heap_alloc_new w _
  have hs0 : w.heap.size < (w.alloc exZ).heap.size := by simp
  have c1 := scan_c s (w.alloc exZ) (hW.below B0) (hE.below B0) hs
  have hB0 := hB.below B0
  clear hPW
  go_enter Tryz.func7, Tryz.ntmps7
  go_wp2_with fail
  refine c1.mono ?_
  rintro e w1 ⟨v, er, at0, rfl, hO, b1⟩
  have B1 : Below w.heap.size w w1 := B0.trans (b1.mono (by omega))
  have Z1 := (b1.block _ hs0).trans Z0
  have hB1 := hB0.below b1
  have hz1 : w.heap.size < w1.heap.size := lt_of_block Z1
  clear c1 b1 Z0 B0 hB0 hW hE hB
  rcases hO with ⟨e, p, hR, rfl, rfl, rfl⟩ | ⟨ts, hR, rfl, rfl, hown⟩
  · have he := scan_err_pos hR
    have heI : ((e : Int) == 0) = false := by rw [beq_eq_false_iff_ne]; omega
    have FIN : Hid (W = .bad e p) := by show W = _; rw [HW.out]; unfold parseA; rw [hR]
    have B2 := ((((B1.setCell (p := ⟨w.heap.size, 0, none⟩) (Nat.le_refl _) (.int .i64 0)).setCell (p := ⟨w.heap.size, 1, none⟩) (Nat.le_refl _) (.int .i64 0)).setCell (p := ⟨w.heap.size, 2, none⟩) (Nat.le_refl _) (.string ⟨#[]⟩)).setCell (p := ⟨w.heap.size, 3, none⟩) (Nat.le_refl _) (.slice none 0 0)).setCell (p := ⟨w.heap.size, 4, none⟩) (Nat.le_refl _) (.int .i64 0)
    have ZE := set5k (.int .i64 0) (.int .i64 0) (.string ⟨#[]⟩) (.slice none 0 0) (.int .i64 0) Z1
    have HU : Hid (∃ wz, wz = (World.setCell (World.setCell (World.setCell (World.setCell (World.setCell w1 ⟨w.heap.size, 0, none⟩ (.int .i64 0)) ⟨w.heap.size, 1, none⟩ (.int .i64 0)) ⟨w.heap.size, 2, none⟩ (.string ⟨#[]⟩)) ⟨w.heap.size, 3, none⟩ (.slice none 0 0)) ⟨w.heap.size, 4, none⟩ (.int .i64 0)) ∧ wz.cell? ⟨w.heap.size, 0, none⟩ = some (.int .i64 0) ∧ wz.cell? ⟨w.heap.size, 1, none⟩ = some (.int .i64 0) ∧ wz.cell? ⟨w.heap.size, 2, none⟩ = some (.string ⟨#[]⟩) ∧ wz.cell? ⟨w.heap.size, 3, none⟩ = some (.slice none 0 0) ∧ wz.cell? ⟨w.heap.size, 4, none⟩ = some (.int .i64 0) ∧ Below w.heap.size w wz) := by
      obtain ⟨u0, u1, u2, u3, u4, -⟩ := box5 ZE
      exact ⟨_, rfl, u0, u1, u2, u3, u4, B2⟩
    obtain ⟨z0, z1, z2, z3, z4, zf⟩ := box5 Z1
    clear HW hR B1 Z1 ZE hB1 he B2
    go_wp2
    obtain ⟨wz, hwz, u0, u1, u2, u3, u4, BZ⟩ := HU.out
    clear HU
    rw [← hwz]
    clear hwz
    exact bodyPost_ret (v := .tuple #[exV noEx none 0, .int .i64 (e : Nat), .int .i64 (p : Nat)]) (by simp [results, Tryz.results7, go_sem, u0, u1, u2, u3, u4, exV, noEx, Fs.len]) rfl (by rw [FIN.out]; exact ⟨rfl, BZ⟩)
  · have hso := scan_ok hR
    have hPW : W = readF 30000 ts := by rw [HW.out]; unfold parseA; rw [hR]
    have HW2 : Hid (W = readF 30000 ts) := hPW
    have c2 := read_r 30000 (by omega) v w1 _ hown (by omega) (by omega) hB1 (by rw [← hPW]; exact hn)
    rw [← hPW] at c2
    clear HW hR hso hown hB1 hPW
    go_wp2_with fail
    refine c2.mono ?_
    rintro e w2 hP
    clear c2
    cases W using Rs.on with
    | out => exact hP.elim
    | bad er a =>
      obtain ⟨rfl, b2⟩ := hP
      have B2' := B1.trans (b2.mono (by omega))
      have Z2 := (b2.block _ hz1).trans Z1
      have B2 := ((((B2'.setCell (p := ⟨w.heap.size, 0, none⟩) (Nat.le_refl _) (.int .i64 0)).setCell (p := ⟨w.heap.size, 1, none⟩) (Nat.le_refl _) (.int .i64 0)).setCell (p := ⟨w.heap.size, 2, none⟩) (Nat.le_refl _) (.string ⟨#[]⟩)).setCell (p := ⟨w.heap.size, 3, none⟩) (Nat.le_refl _) (.slice none 0 0)).setCell (p := ⟨w.heap.size, 4, none⟩) (Nat.le_refl _) (.int .i64 0)
      have ZE := set5k (.int .i64 0) (.int .i64 0) (.string ⟨#[]⟩) (.slice none 0 0) (.int .i64 0) Z2
      have HU : Hid (∃ wz, wz = (World.setCell (World.setCell (World.setCell (World.setCell (World.setCell w2 ⟨w.heap.size, 0, none⟩ (.int .i64 0)) ⟨w.heap.size, 1, none⟩ (.int .i64 0)) ⟨w.heap.size, 2, none⟩ (.string ⟨#[]⟩)) ⟨w.heap.size, 3, none⟩ (.slice none 0 0)) ⟨w.heap.size, 4, none⟩ (.int .i64 0)) ∧ wz.cell? ⟨w.heap.size, 0, none⟩ = some (.int .i64 0) ∧ wz.cell? ⟨w.heap.size, 1, none⟩ = some (.int .i64 0) ∧ wz.cell? ⟨w.heap.size, 2, none⟩ = some (.string ⟨#[]⟩) ∧ wz.cell? ⟨w.heap.size, 3, none⟩ = some (.slice none 0 0) ∧ wz.cell? ⟨w.heap.size, 4, none⟩ = some (.int .i64 0) ∧ Below w.heap.size w wz) := by
        obtain ⟨u0, u1, u2, u3, u4, -⟩ := box5 ZE
        exact ⟨_, rfl, u0, u1, u2, u3, u4, B2⟩
      obtain ⟨z0, z1, z2, z3, z4, zf⟩ := box5 Z2
      clear B1 Z1 ZE b2 B2' Z2 HW2 B2
      unfold exV noEx
      simp only [Fs.len]
      go_wp2
      obtain ⟨wz, hwz, u0, u1, u2, u3, u4, BZ⟩ := HU.out
      clear HU
      rw [← hwz]
      clear hwz
      exact bodyPost_ret (v := .tuple #[exV noEx none 0, .int .i64 (er : Nat), .int .i64 (a : Nat)]) (by simp [results, Tryz.results7, go_sem, u0, u1, u2, u3, u4, exV, noEx, Fs.len]) rfl ⟨rfl, BZ⟩
    | ok x t =>
      obtain ⟨ao, cap, rfl, S2, b2⟩ := hP
      have B2' := B1.trans (b2.mono (by omega))
      have Z2 := (b2.block _ hz1).trans Z1
      have B2 := ((((B2'.setCell (p := ⟨w.heap.size, 0, none⟩) (Nat.le_refl _) (.int .i64 x.k)).setCell (p := ⟨w.heap.size, 1, none⟩) (Nat.le_refl _) (.int .i64 x.n)).setCell (p := ⟨w.heap.size, 2, none⟩) (Nat.le_refl _) (stv x.nm)).setCell (p := ⟨w.heap.size, 3, none⟩) (Nat.le_refl _) (.slice ao x.kids.len cap)).setCell (p := ⟨w.heap.size, 4, none⟩) (Nat.le_refl _) (.int .i64 x.a)
      have ZE := set5k (.int .i64 x.k) (.int .i64 x.n) (stv x.nm) (.slice ao x.kids.len cap) (.int .i64 x.a) Z2
      have SE : Sl _ (Nw w.heap.size) _ _ := (S2.set5 (b := w.heap.size) hz1 (.int .i64 x.k) (.int .i64 x.n) (stv x.nm) (.slice ao x.kids.len cap) (.int .i64 x.a)).low (by omega)
      obtain ⟨z0, z1, z2, z3, z4, zf⟩ := box5 Z2
      obtain ⟨u0, u1, u2, u3, u4, -⟩ := box5 ZE
      clear B1 Z1 ZE b2 B2' Z2 HW2 S2
      rw [exV_out]
      go_wp2
      exact bodyPost_ret (v := .tuple #[exV x ao cap, .int .i64 0, .int .i64 0]) (by simp [results, Tryz.results7, go_sem, u0, u1, u2, u3, u4, exV]) rfl ⟨ao, cap, rfl, SE, B2⟩
end Go.Proofs.YtfpmaeflmboalaaGreatDoor
