/- The document's own writer: the fields of a part. -/
import Derived.Test.YtfpmaeflmboalaaGreatDoorWrqC
namespace Go.Proofs.YtfpmaeflmboalaaGreatDoor
open Go.ChangeShapes Go.WideShapes Go.ChangeAt Go.RowKit
set_option linter.unusedVariables false
set_option linter.unusedSimpArgs false

theorem call_rng (n : Int) : (callOf n).isSome = decide (1 ≤ n ∧ n ≤ 10) := by
  by_cases h : 1 ≤ n ∧ n ≤ 10
  · rw [show decide (1 ≤ n ∧ n ≤ 10) = true by simpa using h]
    have : n = 1 ∨ n = 2 ∨ n = 3 ∨ n = 4 ∨ n = 5 ∨ n = 6 ∨ n = 7 ∨ n = 8 ∨ n = 9 ∨ n = 10 := by omega
    rcases this with rfl | rfl | rfl | rfl | rfl | rfl | rfl | rfl | rfl | rfl <;> rfl
  · rw [show decide (1 ≤ n ∧ n ≤ 10) = false by simpa using h, Option.isSome_eq_false_iff, Option.isNone_iff_eq_none]
    unfold callOf
    rw [List.find?_eq_none]
    intro x hx
    have : ∀ x ∈ callsL, 1 ≤ x.2.1 ∧ x.2.1 ≤ 10 := by decide
    have := this x hx
    simp only [beq_iff_eq]
    omega
theorem quant_rng (n : Int) : (quantOf n).isSome = decide (1 ≤ n ∧ n ≤ 6) := by
  by_cases h : 1 ≤ n ∧ n ≤ 6
  · rw [show decide (1 ≤ n ∧ n ≤ 6) = true by simpa using h]
    have : n = 1 ∨ n = 2 ∨ n = 3 ∨ n = 4 ∨ n = 5 ∨ n = 6 := by omega
    rcases this with rfl | rfl | rfl | rfl | rfl | rfl <;> rfl
  · rw [show decide (1 ≤ n ∧ n ≤ 6) = false by simpa using h, Option.isSome_eq_false_iff, Option.isNone_iff_eq_none]
    unfold quantOf
    rw [List.find?_eq_none]
    intro x hx
    have : ∀ x ∈ quantsL, 1 ≤ x.2 ∧ x.2 ≤ 6 := by decide
    have := this x hx
    simp only [beq_iff_eq]
    omega
set_option maxRecDepth 100000 in
set_option maxHeartbeats 2000000 in
theorem fields_q (k n : Int) (nm : List UInt8) (ao : Option Addr) (len cap : Nat) (a : Int) (w : World) (hl : nm.length ≤ maxLen) :
    Calls Tryz.prog 38 #[.agg #[.int .i64 k, .int .i64 n, stv nm, .slice ao len cap, .int .i64 a]] w fun e w' => e = .returned (.bool (numB k n && namB k nm)) ∧ Below w.heap.size w w' := by
  have B0 : Below w.heap.size w (w.alloc (.cells #[.int .i64 k, .int .i64 n, stv nm, .slice ao len cap, .int .i64 a] 25)) := (Below.refl _ w).alloc (Nat.le_refl _) _
  have Z0 : (w.alloc (.cells #[.int .i64 k, .int .i64 n, stv nm, .slice ao len cap, .int .i64 a] 25)).heap[w.heap.size]? = some (.cells #[.int .i64 k, .int .i64 n, stv nm, .slice ao len cap, .int .i64 a] 25) := heap_alloc_new w _
  have c1 := name_r ⟨nm.toArray⟩ (w.alloc (.cells #[.int .i64 k, .int .i64 n, stv nm, .slice ao len cap, .int .i64 a] 25)) (by rw [size_mk]; exact hl)
  have hd : (ByteArray.mk nm.toArray).data.toList = nm := by simp
  rw [hd] at c1
  obtain ⟨V, hV⟩ : ∃ V, V = (numB k n && namB k nm) := ⟨_, rfl⟩
  rw [← hV]
  have hs0 : w.heap.size < (w.alloc (.cells #[.int .i64 k, .int .i64 n, stv nm, .slice ao len cap, .int .i64 a] 25)).heap.size := by simp
  obtain ⟨z0, z1, z2, z3, z4, zf⟩ := box5 Z0
  clear hd
  by_cases h1 : k = 1
  · subst h1
    by_cases p : 0 ≤ n
    · have pb : 0 ≤ n := p
      have hX : V = (nm == []) := by rw [hV]; simp [numB, namB, call_rng, quant_rng, p]
      clear hV
      rw [hX]
      clear hX V
      go_enter Tryz.func38, Tryz.ntmps38
      go_wp2_with fail
      refine c1.mono ?_
      rintro e w1 ⟨rfl, b1⟩
      have B1 := B0.trans (b1.mono B0.size)
      have Z1 := (b1.block _ hs0).trans Z0
      obtain ⟨y0, y1, y2, y3, y4, yf⟩ := box5 Z1
      clear c1 b1 B0 Z0 Z1 z0 z1 z2 z3 z4 zf
      go_wp2
      go_ret
      exact ⟨ret_bool (by first | rfl | simp), B1⟩
    · have pb : ¬ 0 ≤ n := p
      have hX : V = false := by rw [hV]; simp [numB, namB, call_rng, quant_rng, p]
      clear hV
      rw [hX]
      clear hX V
      go_enter Tryz.func38, Tryz.ntmps38
      go_wp2_with fail
      refine c1.mono ?_
      rintro e w1 ⟨rfl, b1⟩
      have B1 := B0.trans (b1.mono B0.size)
      have Z1 := (b1.block _ hs0).trans Z0
      obtain ⟨y0, y1, y2, y3, y4, yf⟩ := box5 Z1
      clear c1 b1 B0 Z0 Z1 z0 z1 z2 z3 z4 zf
      go_wp2
      go_ret
      exact ⟨ret_bool (by first | rfl | simp), B1⟩
  have b1 : (k == 1) = false := bne h1
  by_cases h3 : k = 3
  · subst h3
    by_cases p : 0 ≤ n
    · have pb : 0 ≤ n := p
      have hX : V = (nm == []) := by rw [hV]; simp [numB, namB, call_rng, quant_rng, p]
      clear hV
      rw [hX]
      clear hX V
      go_enter Tryz.func38, Tryz.ntmps38
      go_wp2_with fail
      refine c1.mono ?_
      rintro e w1 ⟨rfl, b1⟩
      have B1 := B0.trans (b1.mono B0.size)
      have Z1 := (b1.block _ hs0).trans Z0
      obtain ⟨y0, y1, y2, y3, y4, yf⟩ := box5 Z1
      clear c1 b1 B0 Z0 Z1 z0 z1 z2 z3 z4 zf
      go_wp2
      go_ret
      exact ⟨ret_bool (by first | rfl | simp), B1⟩
    · have pb : ¬ 0 ≤ n := p
      have hX : V = false := by rw [hV]; simp [numB, namB, call_rng, quant_rng, p]
      clear hV
      rw [hX]
      clear hX V
      go_enter Tryz.func38, Tryz.ntmps38
      go_wp2_with fail
      refine c1.mono ?_
      rintro e w1 ⟨rfl, b1⟩
      have B1 := B0.trans (b1.mono B0.size)
      have Z1 := (b1.block _ hs0).trans Z0
      obtain ⟨y0, y1, y2, y3, y4, yf⟩ := box5 Z1
      clear c1 b1 B0 Z0 Z1 z0 z1 z2 z3 z4 zf
      go_wp2
      go_ret
      exact ⟨ret_bool (by first | rfl | simp), B1⟩
  have b3 : (k == 3) = false := bne h3
  by_cases h2 : k = 2
  · subst h2
    by_cases p : n = 0
    · subst p
      have hX : V = (nm == []) := by rw [hV]; simp [numB, namB, call_rng, quant_rng]
      clear hV
      rw [hX]
      clear hX V
      go_enter Tryz.func38, Tryz.ntmps38
      go_wp2_with fail
      refine c1.mono ?_
      rintro e w1 ⟨rfl, b1⟩
      have B1 := B0.trans (b1.mono B0.size)
      have Z1 := (b1.block _ hs0).trans Z0
      obtain ⟨y0, y1, y2, y3, y4, yf⟩ := box5 Z1
      clear c1 b1 B0 Z0 Z1 z0 z1 z2 z3 z4 zf
      go_wp2
      go_ret
      exact ⟨ret_bool (by first | rfl | simp), B1⟩
    · have pb : (n == 0) = false := by simpa using p
      by_cases r : n = 1
      · subst r
        have hX : V = (nm == []) := by rw [hV]; simp [numB, namB, call_rng, quant_rng]
        clear hV
        rw [hX]
        clear hX V
        go_enter Tryz.func38, Tryz.ntmps38
        go_wp2_with fail
        refine c1.mono ?_
        rintro e w1 ⟨rfl, b1⟩
        have B1 := B0.trans (b1.mono B0.size)
        have Z1 := (b1.block _ hs0).trans Z0
        obtain ⟨y0, y1, y2, y3, y4, yf⟩ := box5 Z1
        clear c1 b1 B0 Z0 Z1 z0 z1 z2 z3 z4 zf
        go_wp2
        go_ret
        exact ⟨ret_bool (by first | rfl | simp), B1⟩
      · have rb : (n == 1) = false := by simpa using r
        have hX : V = false := by rw [hV]; simp [numB, namB, call_rng, quant_rng, p, r]
        clear hV
        clear p r
        rw [hX]
        clear hX V
        go_enter Tryz.func38, Tryz.ntmps38
        go_wp2_with fail
        refine c1.mono ?_
        rintro e w1 ⟨rfl, b1⟩
        have B1 := B0.trans (b1.mono B0.size)
        have Z1 := (b1.block _ hs0).trans Z0
        obtain ⟨y0, y1, y2, y3, y4, yf⟩ := box5 Z1
        clear c1 b1 B0 Z0 Z1 z0 z1 z2 z3 z4 zf
        go_wp2
        go_ret
        exact ⟨ret_bool (by first | rfl | simp), B1⟩
  have b2 : (k == 2) = false := bne h2
  by_cases h4 : k = 4
  · subst h4
    by_cases p : n = 0
    · subst p
      have hX : V = nameB nm := by rw [hV]; simp [numB, namB, call_rng, quant_rng]
      clear hV
      rw [hX]
      clear hX V
      go_enter Tryz.func38, Tryz.ntmps38
      go_wp2_with fail
      refine c1.mono ?_
      rintro e w1 ⟨rfl, b1⟩
      have B1 := B0.trans (b1.mono B0.size)
      have Z1 := (b1.block _ hs0).trans Z0
      obtain ⟨y0, y1, y2, y3, y4, yf⟩ := box5 Z1
      clear c1 b1 B0 Z0 Z1 z0 z1 z2 z3 z4 zf
      go_wp2
      go_ret
      exact ⟨ret_bool (by first | rfl | simp), B1⟩
    · have pb : (n == 0) = false := by simpa using p
      have hX : V = false := by rw [hV]; simp [numB, namB, call_rng, quant_rng, p]
      clear hV
      clear p
      rw [hX]
      clear hX V
      go_enter Tryz.func38, Tryz.ntmps38
      go_wp2_with fail
      refine c1.mono ?_
      rintro e w1 ⟨rfl, b1⟩
      have B1 := B0.trans (b1.mono B0.size)
      have Z1 := (b1.block _ hs0).trans Z0
      obtain ⟨y0, y1, y2, y3, y4, yf⟩ := box5 Z1
      clear c1 b1 B0 Z0 Z1 z0 z1 z2 z3 z4 zf
      go_wp2
      go_ret
      exact ⟨ret_bool (by first | rfl | simp), B1⟩
  have b4 : (k == 4) = false := bne h4
  by_cases h23 : k = 23
  · subst h23
    by_cases p : n = 0
    · subst p
      have hX : V = nameB nm := by rw [hV]; simp [numB, namB, call_rng, quant_rng]
      clear hV
      rw [hX]
      clear hX V
      go_enter Tryz.func38, Tryz.ntmps38
      go_wp2_with fail
      refine c1.mono ?_
      rintro e w1 ⟨rfl, b1⟩
      have B1 := B0.trans (b1.mono B0.size)
      have Z1 := (b1.block _ hs0).trans Z0
      obtain ⟨y0, y1, y2, y3, y4, yf⟩ := box5 Z1
      clear c1 b1 B0 Z0 Z1 z0 z1 z2 z3 z4 zf
      go_wp2
      go_ret
      exact ⟨ret_bool (by first | rfl | simp), B1⟩
    · have pb : (n == 0) = false := by simpa using p
      have hX : V = false := by rw [hV]; simp [numB, namB, call_rng, quant_rng, p]
      clear hV
      clear p
      rw [hX]
      clear hX V
      go_enter Tryz.func38, Tryz.ntmps38
      go_wp2_with fail
      refine c1.mono ?_
      rintro e w1 ⟨rfl, b1⟩
      have B1 := B0.trans (b1.mono B0.size)
      have Z1 := (b1.block _ hs0).trans Z0
      obtain ⟨y0, y1, y2, y3, y4, yf⟩ := box5 Z1
      clear c1 b1 B0 Z0 Z1 z0 z1 z2 z3 z4 zf
      go_wp2
      go_ret
      exact ⟨ret_bool (by first | rfl | simp), B1⟩
  have b23 : (k == 23) = false := bne h23
  by_cases h20 : k = 20
  · subst h20
    by_cases p : 1 ≤ n
    · have pb : 1 ≤ n := p
      by_cases r : n ≤ 10
      · have rb : n ≤ 10 := r
        have hX : V = (nm == []) := by rw [hV]; simp [numB, namB, call_rng, quant_rng, p, r]
        clear hV
        rw [hX]
        clear hX V
        go_enter Tryz.func38, Tryz.ntmps38
        go_wp2_with fail
        refine c1.mono ?_
        rintro e w1 ⟨rfl, b1⟩
        have B1 := B0.trans (b1.mono B0.size)
        have Z1 := (b1.block _ hs0).trans Z0
        obtain ⟨y0, y1, y2, y3, y4, yf⟩ := box5 Z1
        clear c1 b1 B0 Z0 Z1 z0 z1 z2 z3 z4 zf
        go_wp2
        go_ret
        exact ⟨ret_bool (by first | rfl | simp), B1⟩
      · have rb : ¬ n ≤ 10 := r
        have hX : V = false := by rw [hV]; simp [numB, namB, call_rng, quant_rng, p, r]
        clear hV
        rw [hX]
        clear hX V
        go_enter Tryz.func38, Tryz.ntmps38
        go_wp2_with fail
        refine c1.mono ?_
        rintro e w1 ⟨rfl, b1⟩
        have B1 := B0.trans (b1.mono B0.size)
        have Z1 := (b1.block _ hs0).trans Z0
        obtain ⟨y0, y1, y2, y3, y4, yf⟩ := box5 Z1
        clear c1 b1 B0 Z0 Z1 z0 z1 z2 z3 z4 zf
        go_wp2
        go_ret
        exact ⟨ret_bool (by first | rfl | simp), B1⟩
    · have pb : ¬ 1 ≤ n := p
      have hX : V = false := by rw [hV]; simp [numB, namB, call_rng, quant_rng, p]
      clear hV
      rw [hX]
      clear hX V
      go_enter Tryz.func38, Tryz.ntmps38
      go_wp2_with fail
      refine c1.mono ?_
      rintro e w1 ⟨rfl, b1⟩
      have B1 := B0.trans (b1.mono B0.size)
      have Z1 := (b1.block _ hs0).trans Z0
      obtain ⟨y0, y1, y2, y3, y4, yf⟩ := box5 Z1
      clear c1 b1 B0 Z0 Z1 z0 z1 z2 z3 z4 zf
      go_wp2
      go_ret
      exact ⟨ret_bool (by first | rfl | simp), B1⟩
  have b20 : (k == 20) = false := bne h20
  by_cases h21 : k = 21
  · subst h21
    by_cases p : 1 ≤ n
    · have pb : 1 ≤ n := p
      by_cases r : n ≤ 6
      · have rb : n ≤ 6 := r
        have hX : V = nameB nm := by rw [hV]; simp [numB, namB, call_rng, quant_rng, p, r]
        clear hV
        rw [hX]
        clear hX V
        go_enter Tryz.func38, Tryz.ntmps38
        go_wp2_with fail
        refine c1.mono ?_
        rintro e w1 ⟨rfl, b1⟩
        have B1 := B0.trans (b1.mono B0.size)
        have Z1 := (b1.block _ hs0).trans Z0
        obtain ⟨y0, y1, y2, y3, y4, yf⟩ := box5 Z1
        clear c1 b1 B0 Z0 Z1 z0 z1 z2 z3 z4 zf
        go_wp2
        go_ret
        exact ⟨ret_bool (by first | rfl | simp), B1⟩
      · have rb : ¬ n ≤ 6 := r
        have hX : V = false := by rw [hV]; simp [numB, namB, call_rng, quant_rng, p, r]
        clear hV
        rw [hX]
        clear hX V
        go_enter Tryz.func38, Tryz.ntmps38
        go_wp2_with fail
        refine c1.mono ?_
        rintro e w1 ⟨rfl, b1⟩
        have B1 := B0.trans (b1.mono B0.size)
        have Z1 := (b1.block _ hs0).trans Z0
        obtain ⟨y0, y1, y2, y3, y4, yf⟩ := box5 Z1
        clear c1 b1 B0 Z0 Z1 z0 z1 z2 z3 z4 zf
        go_wp2
        go_ret
        exact ⟨ret_bool (by first | rfl | simp), B1⟩
    · have pb : ¬ 1 ≤ n := p
      have hX : V = false := by rw [hV]; simp [numB, namB, call_rng, quant_rng, p]
      clear hV
      rw [hX]
      clear hX V
      go_enter Tryz.func38, Tryz.ntmps38
      go_wp2_with fail
      refine c1.mono ?_
      rintro e w1 ⟨rfl, b1⟩
      have B1 := B0.trans (b1.mono B0.size)
      have Z1 := (b1.block _ hs0).trans Z0
      obtain ⟨y0, y1, y2, y3, y4, yf⟩ := box5 Z1
      clear c1 b1 B0 Z0 Z1 z0 z1 z2 z3 z4 zf
      go_wp2
      go_ret
      exact ⟨ret_bool (by first | rfl | simp), B1⟩
  have b21 : (k == 21) = false := bne h21
  by_cases p : n = 0
  · subst p
    have hX : V = (nm == []) := by rw [hV]; simp [numB, namB, call_rng, quant_rng, h1, h3, h2, h4, h23, h20, h21]
    clear hV
    clear h1 h3 h2 h4 h23 h20 h21
    rw [hX]
    clear hX V
    go_enter Tryz.func38, Tryz.ntmps38
    go_wp2_with fail
    refine c1.mono ?_
    rintro e w1 ⟨rfl, b1⟩
    have B1 := B0.trans (b1.mono B0.size)
    have Z1 := (b1.block _ hs0).trans Z0
    obtain ⟨y0, y1, y2, y3, y4, yf⟩ := box5 Z1
    clear c1 b1 B0 Z0 Z1 z0 z1 z2 z3 z4 zf
    go_wp2
    go_ret
    exact ⟨ret_bool (by first | rfl | simp), B1⟩
  · have pb : (n == 0) = false := by simpa using p
    have hX : V = false := by rw [hV]; simp [numB, namB, call_rng, quant_rng, h1, h3, h2, h4, h23, h20, h21, p]
    clear hV
    clear p h1 h3 h2 h4 h23 h20 h21
    rw [hX]
    clear hX V
    go_enter Tryz.func38, Tryz.ntmps38
    go_wp2_with fail
    refine c1.mono ?_
    rintro e w1 ⟨rfl, b1⟩
    have B1 := B0.trans (b1.mono B0.size)
    have Z1 := (b1.block _ hs0).trans Z0
    obtain ⟨y0, y1, y2, y3, y4, yf⟩ := box5 Z1
    clear c1 b1 B0 Z0 Z1 z0 z1 z2 z3 z4 zf
    go_wp2
    go_ret
    exact ⟨ret_bool (by first | rfl | simp), B1⟩
end Go.Proofs.YtfpmaeflmboalaaGreatDoor
