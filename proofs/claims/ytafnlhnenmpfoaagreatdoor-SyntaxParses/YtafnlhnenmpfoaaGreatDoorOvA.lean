/- What is written over: lists of trees whose parts stand or are dead. -/
import Derived.Test.YtafnlhnenmpfoaaGreatDoorScO
namespace Go.Proofs.YtafnlhnenmpfoaaGreatDoor
open Go.ChangeShapes Go.WideShapes Go.ChangeAt Go.RowKit
set_option linter.unusedVariables false
set_option linter.unusedSimpArgs false

set_option maxRecDepth 100000 in
set_option maxHeartbeats 1000000 in
theorem read_rc {ts : List Tk} (n : Nat) (hn1 : n ≤ 1000000) (v : Value) (w : World) (b0 : Nat) (hT : w.ownsRow b0 47 4 v ts.length (tcells ts)) (h0 : 0 < ts.length) (hl : ts.length ≤ 3000) (hB : Tb3 w) (hn : readF n ts ≠ .out) :
    Calls Tryz.prog 24 #[v] w (PostRc w (readF n ts)) := by
  obtain ⟨W, hW⟩ : ∃ W, W = readF n ts := ⟨_, rfl⟩
  rw [← hW] at hn ⊢
  have HW : Hid (W = readF n ts) := hW
  have r0 : Row w (fun _ => 0) 0 47 4 v ts.length (tcells ts) := ⟨ownsRow_base0 hT, fun _ _ => rfl⟩
  obtain ⟨g, cap, rfl, -, hc1, hc2, hg, hcell, -⟩ := r0.pos h0
  have hmf : ∀ (fn : Fn) (first cap : Array Value) (w : World), (Instr.makeFunc fn first cap).run Tryz.prog w = .ok (.func fn first cap) w := fun _ _ _ _ => rfl
  have s1 : (w.alloc (.cells #[.int .i64 0, .int .i64 0, .string ⟨#[]⟩, .slice none 0 0, .int .i64 0] 25)).heap.size = w.heap.size + 1 := by simp
  have s2 : ((w.alloc (.cells #[.int .i64 0, .int .i64 0, .string ⟨#[]⟩, .slice none 0 0, .int .i64 0] 25)).alloc (.cells #[.int .i64 0] 26)).heap.size = w.heap.size + 2 := by simp
  have s3 : (((w.alloc (.cells #[.int .i64 0, .int .i64 0, .string ⟨#[]⟩, .slice none 0 0, .int .i64 0] 25)).alloc (.cells #[.int .i64 0] 26)).alloc (.cells #[.int .i64 0] 3)).heap.size = w.heap.size + 3 := by simp
  have B4 : Below w.heap.size w ((((w.alloc (.cells #[.int .i64 0, .int .i64 0, .string ⟨#[]⟩, .slice none 0 0, .int .i64 0] 25)).alloc (.cells #[.int .i64 0] 26)).alloc (.cells #[.int .i64 0] 3)).alloc (.cells #[.slice (some ⟨g, 0, none⟩) ts.length cap, .int .i64 0, .int .i64 0, .int .i64 0] 81)) := ((((Below.refl _ w).alloc (Nat.le_refl _) _).alloc (by rw [s1]; omega) _).alloc (by rw [s2]; omega) _).alloc (by rw [s3]; omega) _
  have X4 : Bx3 ((((w.alloc (.cells #[.int .i64 0, .int .i64 0, .string ⟨#[]⟩, .slice none 0 0, .int .i64 0] 25)).alloc (.cells #[.int .i64 0] 26)).alloc (.cells #[.int .i64 0] 3)).alloc (.cells #[.slice (some ⟨g, 0, none⟩) ts.length cap, .int .i64 0, .int .i64 0, .int .i64 0] 81)) w.heap.size (.int .i64 0) (.int .i64 0) (.string ⟨#[]⟩) (.slice none 0 0) (.int .i64 0) (.int .i64 0) (.int .i64 0) := by
    refine ⟨?_, ?_, ?_⟩
    · exact (Below.heap_alloc _ _ _ (by rw [s3]; omega)).trans ((Below.heap_alloc _ _ _ (by rw [s2]; omega)).trans ((Below.heap_alloc _ _ _ (by rw [s1]; omega)).trans (heap_alloc_new w _)))
    · have := heap_alloc_new (w.alloc (.cells #[.int .i64 0, .int .i64 0, .string ⟨#[]⟩, .slice none 0 0, .int .i64 0] 25)) (.cells #[.int .i64 0] 26)
      rw [s1] at this
      exact (Below.heap_alloc _ _ _ (by rw [s3]; omega)).trans ((Below.heap_alloc _ _ _ (by rw [s2]; omega)).trans this)
    · have := heap_alloc_new ((w.alloc (.cells #[.int .i64 0, .int .i64 0, .string ⟨#[]⟩, .slice none 0 0, .int .i64 0] 25)).alloc (.cells #[.int .i64 0] 26)) (.cells #[.int .i64 0] 3)
      rw [s2] at this
      exact (Below.heap_alloc _ _ _ (by rw [s3]; omega)).trans this
  have R4 : RdS ((((w.alloc (.cells #[.int .i64 0, .int .i64 0, .string ⟨#[]⟩, .slice none 0 0, .int .i64 0] 25)).alloc (.cells #[.int .i64 0] 26)).alloc (.cells #[.int .i64 0] 3)).alloc (.cells #[.slice (some ⟨g, 0, none⟩) ts.length cap, .int .i64 0, .int .i64 0, .int .i64 0] 81)) (w.heap.size + 3) 0 0 ts := by
    have := heap_alloc_new (((w.alloc (.cells #[.int .i64 0, .int .i64 0, .string ⟨#[]⟩, .slice none 0 0, .int .i64 0] 25)).alloc (.cells #[.int .i64 0] 26)).alloc (.cells #[.int .i64 0] 3)) (.cells #[.slice (some ⟨g, 0, none⟩) ts.length cap, .int .i64 0, .int .i64 0, .int .i64 0] 81)
    rw [s3] at this
    refine ⟨g, cap, ts, 0, this, by omega, fun j u hu => (B4.cell (p := ⟨g, j, none⟩) hg).trans ?_, rfl, by omega, hl, hc1, hc2⟩
    rw [hcell j ?_]
    · exact hu
    · have hlen := r0.len
      rw [← hlen]
      by_cases hj : j < (tcells ts).length
      · exact hj
      · rw [List.getElem?_eq_none (by omega)] at hu
        cases hu
  have T4 : Tabs (w.heap.size + 3) ((((w.alloc (.cells #[.int .i64 0, .int .i64 0, .string ⟨#[]⟩, .slice none 0 0, .int .i64 0] 25)).alloc (.cells #[.int .i64 0] 26)).alloc (.cells #[.int .i64 0] 3)).alloc (.cells #[.slice (some ⟨g, 0, none⟩) ts.length cap, .int .i64 0, .int .i64 0, .int .i64 0] 81)) := hB.tabs (by omega) B4
  have hsz4 : ((((w.alloc (.cells #[.int .i64 0, .int .i64 0, .string ⟨#[]⟩, .slice none 0 0, .int .i64 0] 25)).alloc (.cells #[.int .i64 0] 26)).alloc (.cells #[.int .i64 0] 3)).alloc (.cells #[.slice (some ⟨g, 0, none⟩) ts.length cap, .int .i64 0, .int .i64 0, .int .i64 0] 81)).heap.size = w.heap.size + 4 := by simp
  clear hW s1 s2 s3 hT r0 hcell hB
  go_enter_defers Tryz.func24, Tryz.ntmps24
  go_upto_region 3 with fail
  generalize (((w.alloc (.cells #[.int .i64 0, .int .i64 0, .string ⟨#[]⟩, .slice none 0 0, .int .i64 0] 25)).alloc (.cells #[.int .i64 0] 26)).alloc (.cells #[.int .i64 0] 3)).alloc (.cells #[.slice (some ⟨g, 0, none⟩) ts.length cap, .int .i64 0, .int .i64 0, .int .i64 0] 81) = w4 at *
  obtain ⟨B, hBe⟩ : ∃ B, B = w.heap.size := ⟨_, rfl⟩
  rw [← hBe] at B4 X4 R4 T4 hsz4 ⊢
  have HBE : Hid (B = w.heap.size) := hBe
  clear hBe
  have c5 := query_rc (part_okc n hn1) (by omega) (by omega) R4 T4 (fun e => hn (by rw [HW.out]; unfold readF; rw [e]; rfl))
  go_wp2_with fail
  refine c5.mono ?_
  rintro e w5 hP
  clear c5
  cases hr : partF n 1 0 0 ts using Rs.on with
  | out => rw [hr] at hP; exact hP.elim
  | bad er a =>
    rw [hr] at hP
    obtain ⟨rfl, k5⟩ := hP
    have FIN : Hid (W = .bad er a) := by show W = _; rw [HW.out]; unfold readF; rw [hr]; rfl
    have X5 := X4.keep k5 (by omega)
    have B5 : Below B w w5 := B4.trans (k5.below (by omega) (by omega))
    clear HW hr X4 R4 T4 B4 k5
    go_wp2
    refine leaves_cons (f := 41) (args := #[.pointer (some ⟨B, 0, none⟩), .pointer (some ⟨B + 1, 0, none⟩), .pointer (some ⟨B + 2, 0, none⟩)]) (by simp) (by simp [go_sem]) ?_
    refine (catch_panics B er a [] w5 X5).mono ?_
    rintro e u' w6 ⟨rfl, rfl, X6, b6⟩
    have B6 := B5.trans b6
    obtain ⟨z0, z1, z2, z3, z4, -⟩ := box5 X6.t
    obtain ⟨g0, -⟩ := Blk.cells1 X6.e
    obtain ⟨a0, -⟩ := Blk.cells1 X6.a
    have E : PostRc w W (.returned (.tuple #[exV noEx none 0, .int .i64 (er : Nat), .int .i64 (a : Nat)])) w6 := by rw [FIN.out]; exact ⟨rfl, by rw [← HBE.out]; exact B6⟩
    clear FIN
    have a0' : w6.cell? ⟨B + 1 + 1, 0, none⟩ = some (.int .i64 (a : Nat)) := a0
    unfold exV noEx at E
    simp only [Fs.len] at E
    simp [Leaves, settle, results, Tryz.results24, go_sem, z0, z1, z2, z3, z4, g0, a0, a0']
    exact E
  | ok x t =>
    rw [hr] at hP
    obtain ⟨ao, cap5, rfl, S5, R5, k5⟩ := hP
    have X5 := X4.keep k5 (by omega)
    have B5 : Below B w w5 := B4.trans (k5.below (by omega) (by omega))
    have S6 := S5.set5 (b := B) (by omega) (.int .i64 x.k) (.int .i64 x.n) (stv x.nm) (.slice ao x.kids.len cap5) (.int .i64 x.a)
    have R6 := (((((R5.setL ⟨B, 0, none⟩ (.int .i64 x.k) (show B < B + 3 by omega) (show B + 3 ≤ B + 3 by omega)).setL ⟨B, 1, none⟩ (.int .i64 x.n) (show B < B + 3 by omega) (show B + 3 ≤ B + 3 by omega)).setL ⟨B, 2, none⟩ (stv x.nm) (show B < B + 3 by omega) (show B + 3 ≤ B + 3 by omega)).setL ⟨B, 3, none⟩ (.slice ao x.kids.len cap5) (show B < B + 3 by omega) (show B + 3 ≤ B + 3 by omega)).setL ⟨B, 4, none⟩ (.int .i64 x.a) (show B < B + 3 by omega) (show B + 3 ≤ B + 3 by omega))
    have t6 := set5k (.int .i64 x.k) (.int .i64 x.n) (stv x.nm) (.slice ao x.kids.len cap5) (.int .i64 x.a) X5.t
    have e6 := (heap_set5 w5 B (B + 1) (.int .i64 x.k) (.int .i64 x.n) (stv x.nm) (.slice ao x.kids.len cap5) (.int .i64 x.a) (by omega)).trans X5.e
    have a6 := (heap_set5 w5 B (B + 2) (.int .i64 x.k) (.int .i64 x.n) (stv x.nm) (.slice ao x.kids.len cap5) (.int .i64 x.a) (by omega)).trans X5.a
    have B6 := ((((B5.setCell (p := ⟨B, 0, none⟩) (Nat.le_refl _) (.int .i64 x.k)).setCell (p := ⟨B, 1, none⟩) (Nat.le_refl _) (.int .i64 x.n)).setCell (p := ⟨B, 2, none⟩) (Nat.le_refl _) (stv x.nm)).setCell (p := ⟨B, 3, none⟩) (Nat.le_refl _) (.slice ao x.kids.len cap5)).setCell (p := ⟨B, 4, none⟩) (Nat.le_refl _) (.int .i64 x.a)
    obtain ⟨z0, z1, z2, z3, z4, zf⟩ := box5 X5.t
    clear X4 R4 T4 B4 k5 S5 R5 B5
    rw [exV_out]
    go_upto_region 4 with fail
    generalize (World.setCell (World.setCell (World.setCell (World.setCell (World.setCell w5 ⟨B, 0, none⟩ (.int .i64 x.k)) ⟨B, 1, none⟩ (.int .i64 x.n)) ⟨B, 2, none⟩ (stv x.nm)) ⟨B, 3, none⟩ (.slice ao x.kids.len cap5)) ⟨B, 4, none⟩ (.int .i64 x.a)) = w6 at *
    have X6 : Bx3 w6 B (.int .i64 x.k) (.int .i64 x.n) (stv x.nm) (.slice ao x.kids.len cap5) (.int .i64 x.a) (.int .i64 0) (.int .i64 0) := ⟨t6, e6, a6⟩
    have hB6 : B + 3 < w6.heap.size := R6.lt
    clear t6 e6 a6 z0 z1 z2 z3 z4 zf X5
    cases t with
    | nil => exact absurd (by rw [HW.out]; unfold readF; rw [hr]; rfl) hn
    | cons y l =>
    have c7 := token_r R6
    unfold tkV at c7
    have f0 := tk_f0
    go_wp2_with fail
    refine c7.mono ?_
    rintro e w7 ⟨rfl, b7⟩
    have k7 : Keep (B + 3) w6 w7 := Keep.ofBelow b7
    have X7 := X6.keep k7 (by omega)
    have R7 := R6.below b7
    have B7 : Below B w w7 := B6.trans (b7.mono (by omega))
    have S7 := S6.keepN k7 (by omega)
    clear c7 b7 k7 X6 R6 B6 S6
    by_cases hy : y.k = 0
    · have FIN : Hid (W = .ok x (y :: l)) := by show W = _; rw [HW.out]; unfold readF; rw [hr]; simp only [Rs.bind, hy, if_true]
      have hy2 : ((y.k : Int) == 0) = true := by rw [beq_iff_eq]; omega
      have t8 := set5k (.int .i64 x.k) (.int .i64 x.n) (stv x.nm) (.slice ao x.kids.len cap5) (.int .i64 x.a) X7.t
      have t9 := (heap_setCell_other _ ⟨B + 1, 0, none⟩ B (.int .i64 0) (show B ≠ B + 1 by omega)).trans t8
      have t10 := (heap_setCell_other _ ⟨B + 2, 0, none⟩ B (.int .i64 0) (show B ≠ B + 2 by omega)).trans t9
      have e8 := (heap_set5 w7 B (B + 1) (.int .i64 x.k) (.int .i64 x.n) (stv x.nm) (.slice ao x.kids.len cap5) (.int .i64 x.a) (by omega)).trans X7.e
      have e9 := (Blk.set (o := fun _ => 0) (i := 0) ⟨e8, rfl⟩ 0 (.int .i64 0)).1
      have e10 := (heap_setCell_other _ ⟨B + 2, 0, none⟩ (B + 1) (.int .i64 0) (show B + 1 ≠ B + 2 by omega)).trans e9
      have a8 := (heap_set5 w7 B (B + 2) (.int .i64 x.k) (.int .i64 x.n) (stv x.nm) (.slice ao x.kids.len cap5) (.int .i64 x.a) (by omega)).trans X7.a
      have a9 := (heap_setCell_other _ ⟨B + 1, 0, none⟩ (B + 2) (.int .i64 0) (show B + 2 ≠ B + 1 by omega)).trans a8
      have a10 := (Blk.set (o := fun _ => 0) (i := 0) ⟨a9, rfl⟩ 0 (.int .i64 0)).1
      have B8 := ((((((B7.setCell (p := ⟨B, 0, none⟩) (Nat.le_refl _) (.int .i64 x.k)).setCell (p := ⟨B, 1, none⟩) (Nat.le_refl _) (.int .i64 x.n)).setCell (p := ⟨B, 2, none⟩) (Nat.le_refl _) (stv x.nm)).setCell (p := ⟨B, 3, none⟩) (Nat.le_refl _) (.slice ao x.kids.len cap5)).setCell (p := ⟨B, 4, none⟩) (Nat.le_refl _) (.int .i64 x.a)).setCell (p := ⟨B + 1, 0, none⟩) (show B ≤ B + 1 by omega) (.int .i64 0)).setCell (p := ⟨B + 2, 0, none⟩) (show B ≤ B + 2 by omega) (.int .i64 0)
      have S8 := ((S7.set5 (b := B) (by omega) (.int .i64 x.k) (.int .i64 x.n) (stv x.nm) (.slice ao x.kids.len cap5) (.int .i64 x.a)).setN ⟨B + 1, 0, none⟩ (.int .i64 0) (show B + 1 < w4.heap.size by omega)).setN ⟨B + 2, 0, none⟩ (.int .i64 0) (show B + 2 < w4.heap.size by omega)
      obtain ⟨z0, z1, z2, z3, z4, zf⟩ := box5 X7.t
      obtain ⟨g0, gf⟩ := Blk.cells1 X7.e
      obtain ⟨k0, kf⟩ := Blk.cells1 X7.a
      have HU : Hid (∃ wz, wz = (World.setCell (World.setCell (World.setCell (World.setCell (World.setCell (World.setCell (World.setCell w7 ⟨B, 0, none⟩ (.int .i64 x.k)) ⟨B, 1, none⟩ (.int .i64 x.n)) ⟨B, 2, none⟩ (stv x.nm)) ⟨B, 3, none⟩ (.slice ao x.kids.len cap5)) ⟨B, 4, none⟩ (.int .i64 x.a)) ⟨B + 1, 0, none⟩ (.int .i64 0)) ⟨B + 2, 0, none⟩ (.int .i64 0)) ∧ wz.cell? ⟨B, 0, none⟩ = some (.int .i64 x.k) ∧ wz.cell? ⟨B, 1, none⟩ = some (.int .i64 x.n) ∧ wz.cell? ⟨B, 2, none⟩ = some (stv x.nm) ∧ wz.cell? ⟨B, 3, none⟩ = some (.slice ao x.kids.len cap5) ∧ wz.cell? ⟨B, 4, none⟩ = some (.int .i64 x.a) ∧ wz.cell? ⟨B + 1, 0, none⟩ = some (.int .i64 0) ∧ wz.cell? ⟨B + 2, 0, none⟩ = some (.int .i64 0) ∧ PostRc w W (.returned (.tuple #[exV x ao cap5, .int .i64 0, .int .i64 0])) wz) := by
        obtain ⟨u0, u1, u2, u3, u4, -⟩ := box5 t10
        obtain ⟨p0, -⟩ := Blk.cells1 e10
        obtain ⟨q0, -⟩ := Blk.cells1 a10
        refine ⟨_, rfl, u0, u1, u2, u3, u4, p0, q0, ?_⟩
        rw [FIN.out]
        exact ⟨ao, cap5, rfl, by rw [← HBE.out]; exact S8.low (by omega), by rw [← HBE.out]; exact B8⟩
      clear t8 t9 t10 e8 e9 e10 a8 a9 a10 B8 S8 S7 B7 X7 R7 FIN HW hr hy
      go_wp2
      refine leaves_cons (f := 41) (args := #[.pointer (some ⟨B, 0, none⟩), .pointer (some ⟨B + 1, 0, none⟩), .pointer (some ⟨B + 2, 0, none⟩)]) (by simp) (by simp [go_sem]) ?_
      refine (catch_idle B _).mono ?_
      rintro e u' w9 ⟨rfl, rfl, hw9⟩
      obtain ⟨wz, hwz, u0, u1, u2, u3, u4, p0, q0, E⟩ := HU.out
      clear HU
      have hw : w9 = wz := hw9.trans hwz.symm
      clear hw9 hwz
      subst hw
      have q0' : w9.cell? ⟨B + 1 + 1, 0, none⟩ = some (.int .i64 0) := q0
      unfold exV at E
      simp [Leaves, settle, results, Tryz.results24, go_sem, u0, u1, u2, u3, u4, p0, q0, q0']
      exact E
    · have FIN : Hid (W = .bad 120 y.a) := by show W = _; rw [HW.out]; unfold readF; rw [hr]; simp only [Rs.bind, hy, if_false]
      have hy2 : ((y.k : Int) == 0) = false := by rw [beq_eq_false_iff_ne]; omega
      have c8 := refused_r 120 R7
      clear HW hr hy S7
      go_wp2_with fail
      refine c8.mono ?_
      rintro e w8 ⟨rfl, b8⟩
      have X8 := X7.keep (Keep.ofBelow (rb := B + 3) b8) (by omega)
      have B8 : Below B w w8 := B7.trans (b8.mono (by have := R7.lt; omega))
      clear c8 b8 X7 R7 B7
      go_wp2
      refine leaves_cons (f := 41) (args := #[.pointer (some ⟨B, 0, none⟩), .pointer (some ⟨B + 1, 0, none⟩), .pointer (some ⟨B + 2, 0, none⟩)]) (by simp) (by simp [go_sem]) ?_
      refine (catch_panics B 120 y.a [] w8 X8).mono ?_
      rintro e u' w9 ⟨rfl, rfl, X9, b9⟩
      have B9 := B8.trans b9
      obtain ⟨z0, z1, z2, z3, z4, -⟩ := box5 X9.t
      obtain ⟨g0, -⟩ := Blk.cells1 X9.e
      obtain ⟨a0, -⟩ := Blk.cells1 X9.a
      have E : PostRc w W (.returned (.tuple #[exV noEx none 0, .int .i64 ((120 : Nat) : Int), .int .i64 (y.a : Nat)])) w9 := by rw [FIN.out]; exact ⟨rfl, by rw [← HBE.out]; exact B9⟩
      clear FIN
      have a0' : w9.cell? ⟨B + 1 + 1, 0, none⟩ = some (.int .i64 (y.a : Nat)) := a0
      unfold exV noEx at E
      simp only [Fs.len] at E
      simp [Leaves, settle, results, Tryz.results24, go_sem, z0, z1, z2, z3, z4, g0, a0, a0']
      exact E
end Go.Proofs.YtafnlhnenmpfoaaGreatDoor
namespace Go.Proofs.YtafnlhnenmpfoaaGreatDoor
open Go.ChangeShapes Go.WideShapes Go.ChangeAt Go.RowKit
set_option linter.unusedVariables false
set_option linter.unusedSimpArgs false

set_option maxRecDepth 100000 in
set_option maxHeartbeats 1000000 in
theorem parse_rc (s : ByteArray) (w : World) (hW : Wd w) (hE : Ers w) (hB : Tb3 w) (hs : s.size ≤ maxLen) :
    Calls Tryz.prog 9 #[.string s] w (PostRc w (parseA s.data.toList)) := by
  obtain ⟨W, hPW⟩ : ∃ W, W = parseA s.data.toList := ⟨_, rfl⟩
  rw [← hPW]
  have HW : Hid (W = parseA s.data.toList) := hPW
  have hn : W ≠ .out := by rw [hPW]; exact parse_fine _
  have B0 : Below w.heap.size w (w.alloc exZ) := (Below.refl _ w).alloc (Nat.le_refl _) _
  have Z0 : (w.alloc exZ).heap[w.heap.size]? = some exZ := heap_alloc_new w _
  have hs0 : w.heap.size < (w.alloc exZ).heap.size := by simp
  have c1 := scan_c s (w.alloc exZ) (hW.below B0) (hE.below B0) hs
  have hB0 := hB.below B0
  clear hPW
  go_enter Tryz.func9, Tryz.ntmps9
  go_wp2_with fail
  refine c1.mono ?_
  rintro e w1 ⟨v, er, at0, rfl, hO, b1⟩
  have B1 : Below w.heap.size w w1 := B0.trans (b1.mono (by omega))
  have Z1 := (b1.block _ hs0).trans Z0
  have hB1 := hB0.below b1
  have hz1 : w.heap.size < w1.heap.size := lt_of_block Z1
  clear c1 b1 Z0 B0 hB0 hW hE hB
  rcases hO with ⟨e, p, hR, rfl, rfl, rfl⟩ | ⟨ts, hR, rfl, rfl, hown⟩
  · have he := scan_err_pos hR
    have heI : ((e : Int) == 0) = false := by rw [beq_eq_false_iff_ne]; omega
    have FIN : Hid (W = .bad e p) := by show W = _; rw [HW.out]; unfold parseA; rw [hR]
    have B2 := ((((B1.setCell (p := ⟨w.heap.size, 0, none⟩) (Nat.le_refl _) (.int .i64 0)).setCell (p := ⟨w.heap.size, 1, none⟩) (Nat.le_refl _) (.int .i64 0)).setCell (p := ⟨w.heap.size, 2, none⟩) (Nat.le_refl _) (.string ⟨#[]⟩)).setCell (p := ⟨w.heap.size, 3, none⟩) (Nat.le_refl _) (.slice none 0 0)).setCell (p := ⟨w.heap.size, 4, none⟩) (Nat.le_refl _) (.int .i64 0)
    have ZE := set5k (.int .i64 0) (.int .i64 0) (.string ⟨#[]⟩) (.slice none 0 0) (.int .i64 0) Z1
    have HU : Hid (∃ wz, wz = (World.setCell (World.setCell (World.setCell (World.setCell (World.setCell w1 ⟨w.heap.size, 0, none⟩ (.int .i64 0)) ⟨w.heap.size, 1, none⟩ (.int .i64 0)) ⟨w.heap.size, 2, none⟩ (.string ⟨#[]⟩)) ⟨w.heap.size, 3, none⟩ (.slice none 0 0)) ⟨w.heap.size, 4, none⟩ (.int .i64 0)) ∧ wz.cell? ⟨w.heap.size, 0, none⟩ = some (.int .i64 0) ∧ wz.cell? ⟨w.heap.size, 1, none⟩ = some (.int .i64 0) ∧ wz.cell? ⟨w.heap.size, 2, none⟩ = some (.string ⟨#[]⟩) ∧ wz.cell? ⟨w.heap.size, 3, none⟩ = some (.slice none 0 0) ∧ wz.cell? ⟨w.heap.size, 4, none⟩ = some (.int .i64 0) ∧ Below w.heap.size w wz) := by
      obtain ⟨u0, u1, u2, u3, u4, -⟩ := box5 ZE
      exact ⟨_, rfl, u0, u1, u2, u3, u4, B2⟩
    obtain ⟨z0, z1, z2, z3, z4, zf⟩ := box5 Z1
    clear HW hR B1 Z1 ZE hB1 he B2
    go_wp2
    obtain ⟨wz, hwz, u0, u1, u2, u3, u4, BZ⟩ := HU.out
    clear HU
    rw [← hwz]
    clear hwz
    exact bodyPost_ret (v := .tuple #[exV noEx none 0, .int .i64 (e : Nat), .int .i64 (p : Nat)]) (by simp [results, Tryz.results9, go_sem, u0, u1, u2, u3, u4, exV, noEx, Fs.len]) rfl (by rw [FIN.out]; exact ⟨rfl, BZ⟩)
  · have hso := scan_ok hR
    have hPW : W = readF 30000 ts := by rw [HW.out]; unfold parseA; rw [hR]
    have HW2 : Hid (W = readF 30000 ts) := hPW
    have c2 := read_rc 30000 (by omega) v w1 _ hown (by omega) (by omega) hB1 (by rw [← hPW]; exact hn)
    rw [← hPW] at c2
    clear HW hR hso hown hB1 hPW
    go_wp2_with fail
    refine c2.mono ?_
    rintro e w2 hP
    clear c2
    cases W using Rs.on with
    | out => exact hP.elim
    | bad er a =>
      obtain ⟨rfl, b2⟩ := hP
      have B2' := B1.trans (b2.mono (by omega))
      have Z2 := (b2.block _ hz1).trans Z1
      have B2 := ((((B2'.setCell (p := ⟨w.heap.size, 0, none⟩) (Nat.le_refl _) (.int .i64 0)).setCell (p := ⟨w.heap.size, 1, none⟩) (Nat.le_refl _) (.int .i64 0)).setCell (p := ⟨w.heap.size, 2, none⟩) (Nat.le_refl _) (.string ⟨#[]⟩)).setCell (p := ⟨w.heap.size, 3, none⟩) (Nat.le_refl _) (.slice none 0 0)).setCell (p := ⟨w.heap.size, 4, none⟩) (Nat.le_refl _) (.int .i64 0)
      have ZE := set5k (.int .i64 0) (.int .i64 0) (.string ⟨#[]⟩) (.slice none 0 0) (.int .i64 0) Z2
      have HU : Hid (∃ wz, wz = (World.setCell (World.setCell (World.setCell (World.setCell (World.setCell w2 ⟨w.heap.size, 0, none⟩ (.int .i64 0)) ⟨w.heap.size, 1, none⟩ (.int .i64 0)) ⟨w.heap.size, 2, none⟩ (.string ⟨#[]⟩)) ⟨w.heap.size, 3, none⟩ (.slice none 0 0)) ⟨w.heap.size, 4, none⟩ (.int .i64 0)) ∧ wz.cell? ⟨w.heap.size, 0, none⟩ = some (.int .i64 0) ∧ wz.cell? ⟨w.heap.size, 1, none⟩ = some (.int .i64 0) ∧ wz.cell? ⟨w.heap.size, 2, none⟩ = some (.string ⟨#[]⟩) ∧ wz.cell? ⟨w.heap.size, 3, none⟩ = some (.slice none 0 0) ∧ wz.cell? ⟨w.heap.size, 4, none⟩ = some (.int .i64 0) ∧ Below w.heap.size w wz) := by
        obtain ⟨u0, u1, u2, u3, u4, -⟩ := box5 ZE
        exact ⟨_, rfl, u0, u1, u2, u3, u4, B2⟩
      obtain ⟨z0, z1, z2, z3, z4, zf⟩ := box5 Z2
      clear B1 Z1 ZE b2 B2' Z2 HW2 B2
      unfold exV noEx
      simp only [Fs.len]
      go_wp2
      obtain ⟨wz, hwz, u0, u1, u2, u3, u4, BZ⟩ := HU.out
      clear HU
      rw [← hwz]
      clear hwz
      exact bodyPost_ret (v := .tuple #[exV noEx none 0, .int .i64 (er : Nat), .int .i64 (a : Nat)]) (by simp [results, Tryz.results9, go_sem, u0, u1, u2, u3, u4, exV, noEx, Fs.len]) rfl ⟨rfl, BZ⟩
    | ok x t =>
      obtain ⟨ao, cap, rfl, S2, b2⟩ := hP
      have B2' := B1.trans (b2.mono (by omega))
      have Z2 := (b2.block _ hz1).trans Z1
      have B2 := ((((B2'.setCell (p := ⟨w.heap.size, 0, none⟩) (Nat.le_refl _) (.int .i64 x.k)).setCell (p := ⟨w.heap.size, 1, none⟩) (Nat.le_refl _) (.int .i64 x.n)).setCell (p := ⟨w.heap.size, 2, none⟩) (Nat.le_refl _) (stv x.nm)).setCell (p := ⟨w.heap.size, 3, none⟩) (Nat.le_refl _) (.slice ao x.kids.len cap)).setCell (p := ⟨w.heap.size, 4, none⟩) (Nat.le_refl _) (.int .i64 x.a)
      have ZE := set5k (.int .i64 x.k) (.int .i64 x.n) (stv x.nm) (.slice ao x.kids.len cap) (.int .i64 x.a) Z2
      have SE : Slc _ (Nw w.heap.size) _ _ _ := (S2.set5 (b := w.heap.size) hz1 (.int .i64 x.k) (.int .i64 x.n) (stv x.nm) (.slice ao x.kids.len cap) (.int .i64 x.a)).low (by omega)
      obtain ⟨z0, z1, z2, z3, z4, zf⟩ := box5 Z2
      obtain ⟨u0, u1, u2, u3, u4, -⟩ := box5 ZE
      clear B1 Z1 ZE b2 B2' Z2 HW2 S2
      rw [exV_out]
      go_wp2
      exact bodyPost_ret (v := .tuple #[exV x ao cap, .int .i64 0, .int .i64 0]) (by simp [results, Tryz.results9, go_sem, u0, u1, u2, u3, u4, exV]) rfl ⟨ao, cap, rfl, SE, B2⟩
end Go.Proofs.YtafnlhnenmpfoaaGreatDoor
namespace Go.Proofs.YtafnlhnenmpfoaaGreatDoor
open Go.ChangeShapes Go.WideShapes Go.ChangeAt Go.RowKit
set_option linter.unusedVariables false
set_option linter.unusedSimpArgs false

/-- A part that has no kids, whatever else it is. -/
def DeadG (cur : Array Value) (j : Nat) : Prop :=
  ∃ (x y z : Int) (s : ByteArray), cur[j * 5]? = some (.int .i64 x) ∧ cur[j * 5 + 1]? = some (.int .i64 y) ∧ cur[j * 5 + 2]? = some (.string s) ∧ cur[j * 5 + 3]? = some (.slice none 0 0) ∧ cur[j * 5 + 4]? = some (.int .i64 z)
def SameG (cur cur' : Array Value) (j : Nat) : Prop := ∀ t, t < 5 → cur'[j * 5 + t]? = cur[j * 5 + t]?
theorem DeadG.same {cur cur' : Array Value} {j : Nat} (h : DeadG cur j) (s : SameG cur cur' j) : DeadG cur' j := by
  obtain ⟨x, y, z, st, h0, h1, h2, h3, h4⟩ := h
  exact ⟨x, y, z, st, (s 0 (by decide)).trans h0, (s 1 (by decide)).trans h1, (s 2 (by decide)).trans h2, (s 3 (by decide)).trans h3, (s 4 (by decide)).trans h4⟩
/-- Only lists of trees in blocks n0 .. m - 1 are written into, and so that parts die; blocks from s on are new. -/
structure Ov (n0 m s : Nat) (w w' : World) : Prop where
  os : w'.os = w.os
  tape : w'.tape = w.tape
  output : w'.output = w.output
  size : w.heap.size ≤ w'.heap.size
  blk : ∀ k, k < s → (k < n0 ∨ m ≤ k) → w'.heap[k]? = w.heap[k]?
  lst : ∀ k cur, n0 ≤ k → k < m → w.heap[k]? = some (.cells cur 25 (0, 0)) → ∃ cur', w'.heap[k]? = some (.cells cur' 25 (0, 0)) ∧ cur'.size = cur.size ∧ ∀ j, SameG cur cur' j ∨ DeadG cur' j
theorem Ov.refl (n0 m s : Nat) (w : World) : Ov n0 m s w w := ⟨rfl, rfl, rfl, Nat.le_refl _, fun _ _ _ => rfl, fun k cur _ _ h => ⟨cur, h, rfl, fun j => .inl fun t _ => rfl⟩⟩
theorem Ov.trans {n0 m s : Nat} {a b c : World} (h : Ov n0 m s a b) (k : Ov n0 m s b c) : Ov n0 m s a c := by
  refine ⟨k.os.trans h.os, k.tape.trans h.tape, k.output.trans h.output, Nat.le_trans h.size k.size, fun i hi hn => (k.blk i hi hn).trans (h.blk i hi hn), fun i cur h0 h1 h2 => ?_⟩
  obtain ⟨c1, h3, h4, h5⟩ := h.lst i cur h0 h1 h2
  obtain ⟨c2, h6, h7, h8⟩ := k.lst i c1 h0 h1 h3
  refine ⟨c2, h6, h7.trans h4, fun j => ?_⟩
  rcases h8 j with h9 | h9
  · rcases h5 j with h10 | h10
    · exact .inl fun t ht => (h9 t ht).trans (h10 t ht)
    · exact .inr (h10.same h9)
  · exact .inr h9
theorem Ov.low {n0 m s s' : Nat} {w w' : World} (h : Ov n0 m s' w w') (hs : s ≤ s') : Ov n0 m s w w' := ⟨h.os, h.tape, h.output, h.size, fun k hk hn => h.blk k (by omega) hn, h.lst⟩
theorem Ov.ofBelow {n0 m s : Nat} {w w' : World} (h : Below s w w') (hm : m ≤ s) : Ov n0 m s w w' :=
  ⟨h.os, h.tape, h.output, h.size, fun k hk _ => h.block k hk, fun k cur h0 h1 h2 => ⟨cur, (h.block k (by omega)).trans h2, rfl, fun j => .inl fun t _ => rfl⟩⟩
/-- Parts of a list in memory: each as it was, or dead. -/
def Gw (n0 m : Nat) (w : World) : Fs → Array Value → Nat → Prop
  | ⟨none⟩, _, _ => True
  | ⟨some ⟨k, n, nm, a, ks, r⟩⟩, cur, i =>
    (DeadG cur i ∨ ∃ ao cap, (cur[i * 5]? = some (.int .i64 k) ∧ cur[i * 5 + 1]? = some (.int .i64 n) ∧ cur[i * 5 + 2]? = some (stv nm) ∧ cur[i * 5 + 3]? = some (.slice ao ks.len cap) ∧ cur[i * 5 + 4]? = some (.int .i64 a)) ∧
      ((ks = .nil ∧ ao = none ∧ cap = 0) ∨ ∃ b cur2, ao = some ⟨b, 0, none⟩ ∧ n0 ≤ b ∧ b < m ∧ ks.len ≤ cap ∧ w.heap[b]? = some (.cells cur2 25 (0, 0)) ∧ cur2.size = cap * 5 ∧ Gw n0 m w ks cur2 0)) ∧ Gw n0 m w r cur (i + 1)
def Sw (n0 m : Nat) (w : World) (ks : Fs) (ao : Option Addr) (cap : Nat) : Prop :=
  (ks = .nil ∧ ao = none ∧ cap = 0) ∨ ∃ b cur2, ao = some ⟨b, 0, none⟩ ∧ n0 ≤ b ∧ b < m ∧ ks.len ≤ cap ∧ w.heap[b]? = some (.cells cur2 25 (0, 0)) ∧ cur2.size = cap * 5 ∧ Gw n0 m w ks cur2 0
theorem Gw.ov {n0 m s : Nat} {w w' : World} (o : Ov n0 m s w w') : ∀ {f : Fs} {cur cur' : Array Value} {i : Nat}, (∀ j, SameG cur cur' j ∨ DeadG cur' j) → Gw n0 m w f cur i → Gw n0 m w' f cur' i
  | ⟨none⟩, cur, cur', i, hc, h => trivial
  | ⟨some ⟨k, n, nm, a, ks, r⟩⟩, cur, cur', i, hc, h => by
    refine ⟨?_, Gw.ov o hc h.2⟩
    rcases hc i with hs | hd
    · rcases h.1 with h1 | ⟨ao, cap, ⟨g0, g1, g2, g3, g4⟩, h2⟩
      · exact .inl (h1.same hs)
      · refine .inr ⟨ao, cap, ⟨(hs 0 (by decide)).trans g0, (hs 1 (by decide)).trans g1, (hs 2 (by decide)).trans g2, (hs 3 (by decide)).trans g3, (hs 4 (by decide)).trans g4⟩, ?_⟩
        rcases h2 with h2 | ⟨b, c2, rfl, h3, h4, h5, h6, h7, h8⟩
        · exact .inl h2
        · obtain ⟨c3, h9, h10, h11⟩ := o.lst b c2 h3 h4 h6
          exact .inr ⟨b, c3, rfl, h3, h4, h5, h9, h10.trans h7, Gw.ov o h11 h8⟩
    · exact .inl hd
theorem Sw.ov {n0 m s : Nat} {w w' : World} {f : Fs} {ao : Option Addr} {cap : Nat} (h : Sw n0 m w f ao cap) (o : Ov n0 m s w w') : Sw n0 m w' f ao cap := by
  rcases h with h | ⟨b, c2, rfl, h3, h4, h5, h6, h7, h8⟩
  · exact .inl h
  · obtain ⟨c3, h9, h10, h11⟩ := o.lst b c2 h3 h4 h6
    exact .inr ⟨b, c3, rfl, h3, h4, h5, h9, h10.trans h7, Gw.ov o h11 h8⟩
theorem Gw.at {n0 m : Nat} {w : World} : ∀ {d r : Fs} {cur : Array Value} {i : Nat}, Gw n0 m w (d.app r) cur i → Gw n0 m w r cur (i + d.len)
  | ⟨none⟩, r, cur, i, h => h
  | ⟨some ⟨k, n, nm, a, ks, d⟩⟩, r, cur, i, h => by
    have h2 := Gw.at (d := d) h.2
    rw [show i + 1 + d.len = i + (d.len + 1) by omega] at h2
    exact h2
theorem FcC.gw {n0 : Nat} {w : World} : ∀ {f : Fs} {xs : List Value} {cur : Array Value} {i : Nat}, FcC w (Nw n0) f xs → (∀ (j : Nat) (u : Value), xs[j]? = some u → cur[i * 5 + j]? = some u) → Gw n0 w.heap.size w f cur i
  | ⟨none⟩, xs, cur, i, h, hc => trivial
  | ⟨some ⟨k, n, nm, a, ks, r⟩⟩, xs, cur, i, h, hc => by
    obtain ⟨ao, cap, ys, rfl, h1, h2⟩ := h
    refine ⟨.inr ⟨ao, cap, ⟨hc 0 _ rfl, hc 1 _ rfl, hc 2 _ rfl, hc 3 _ rfl, hc 4 _ rfl⟩, ?_⟩, FcC.gw h2 (fun j u hu => ?_)⟩
    · rcases h1 with h1 | ⟨b, zs, c2, rfl, hp, hlt, h4, h5, h6, h7, h3⟩
      · exact .inl h1
      · exact .inr ⟨b, c2, rfl, hp, hlt, h4, h5, h6, FcC.gw h3 (fun j u hu => by rw [Nat.zero_mul, Nat.zero_add]; exact h7 j u hu)⟩
    · rw [show (i + 1) * 5 + j = i * 5 + (j + 5) by omega]
      exact hc (j + 5) u (by simpa using hu)
theorem Slc.sw {n0 : Nat} {w : World} {f : Fs} {ao : Option Addr} {cap : Nat} (h : Slc w (Nw n0) f ao cap) : Sw n0 w.heap.size w f ao cap := by
  rcases h with h1 | ⟨b, zs, c2, rfl, hp, hlt, h4, h5, h6, h7, h3⟩
  · exact .inl h1
  · exact .inr ⟨b, c2, rfl, hp, hlt, h4, h5, h6, h3.gw (fun j u hu => by rw [Nat.zero_mul, Nat.zero_add]; exact h7 j u hu)⟩
end Go.Proofs.YtafnlhnenmpfoaaGreatDoor
