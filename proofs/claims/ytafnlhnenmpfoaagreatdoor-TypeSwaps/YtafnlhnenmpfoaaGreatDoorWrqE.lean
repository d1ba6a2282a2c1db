/- The document's own writer: the digits of a number, the sign of a row. -/
import Derived.Test.YtafnlhnenmpfoaaGreatDoorWrqC
namespace Go.Proofs.YtafnlhnenmpfoaaGreatDoor
open Go.ChangeShapes Go.WideShapes Go.ChangeAt Go.RowKit
set_option linter.unusedVariables false
set_option linter.unusedSimpArgs false

theorem call_rng (n : Int) : (callOf n).isSome = decide (1 ≤ n ∧ n ≤ 10) := by
  by_cases h : 1 ≤ n ∧ n ≤ 10
  · rw [show decide (1 ≤ n ∧ n ≤ 10) = true by simpa using h]
    have : n = 1 ∨ n = 2 ∨ n = 3 ∨ n = 4 ∨ n = 5 ∨ n = 6 ∨ n = 7 ∨ n = 8 ∨ n = 9 ∨ n = 10 := by omega
    rcases this with rfl | rfl | rfl | rfl | rfl | rfl | rfl | rfl | rfl | rfl <;> rfl
  · rw [show decide (1 ≤ n ∧ n ≤ 10) = false by simpa using h, Option.isSome_eq_false_iff, Option.isNone_iff_eq_none]
    unfold callOf
    rw [List.find?_eq_none]
    intro x hx
    have : ∀ x ∈ callsL, 1 ≤ x.2.1 ∧ x.2.1 ≤ 10 := by decide
    have := this x hx
    simp only [beq_iff_eq]
    omega
theorem quant_rng (n : Int) : (quantOf n).isSome = decide (1 ≤ n ∧ n ≤ 6) := by
  by_cases h : 1 ≤ n ∧ n ≤ 6
  · rw [show decide (1 ≤ n ∧ n ≤ 6) = true by simpa using h]
    have : n = 1 ∨ n = 2 ∨ n = 3 ∨ n = 4 ∨ n = 5 ∨ n = 6 := by omega
    rcases this with rfl | rfl | rfl | rfl | rfl | rfl <;> rfl
  · rw [show decide (1 ≤ n ∧ n ≤ 6) = false by simpa using h, Option.isSome_eq_false_iff, Option.isNone_iff_eq_none]
    unfold quantOf
    rw [List.find?_eq_none]
    intro x hx
    have : ∀ x ∈ quantsL, 1 ≤ x.2 ∧ x.2 ≤ 6 := by decide
    have := this x hx
    simp only [beq_iff_eq]
    omega
set_option maxRecDepth 100000 in
set_option maxHeartbeats 2000000 in
theorem fields_q (k n : Int) (nm : List UInt8) (ao : Option Addr) (len cap : Nat) (a : Int) (w : World) (hl : nm.length ≤ maxLen) :
    Calls Tryz.prog 84 #[.agg #[.int .i64 k, .int .i64 n, stv nm, .slice ao len cap, .int .i64 a]] w fun e w' => e = .returned (.bool (numB k n && namB k nm)) ∧ Below w.heap.size w w' := by
  have B0 : Below w.heap.size w (w.alloc (.cells #[.int .i64 k, .int .i64 n, stv nm, .slice ao len cap, .int .i64 a] 25)) := (Below.refl _ w).alloc (Nat.le_refl _) _
  have Z0 : (w.alloc (.cells #[.int .i64 k, .int .i64 n, stv nm, .slice ao len cap, .int .i64 a] 25)).heap[w.heap.size]? = some (.cells #[.int .i64 k, .int .i64 n, stv nm, .slice ao len cap, .int .i64 a] 25) := heap_alloc_new w _
  have c1 := name_r ⟨nm.toArray⟩ (w.alloc (.cells #[.int .i64 k, .int .i64 n, stv nm, .slice ao len cap, .int .i64 a] 25)) (by rw [size_mk]; exact hl)
  have hd : (ByteArray.mk nm.toArray).data.toList = nm := by simp
  rw [hd] at c1
  obtain ⟨V, hV⟩ : ∃ V, V = (numB k n && namB k nm) := ⟨_, rfl⟩
  rw [← hV]
  have hs0 : w.heap.size < (w.alloc (.cells #[.int .i64 k, .int .i64 n, stv nm, .slice ao len cap, .int .i64 a] 25)).heap.size := by simp
  obtain ⟨z0, z1, z2, z3, z4, zf⟩ := box5 Z0
  clear hd
  by_cases h1 : k = 1
  · subst h1
    by_cases p : 0 ≤ n
    · have pb : 0 ≤ n := p
      have hX : V = (nm == []) := by rw [hV]; simp [numB, namB, call_rng, quant_rng, p]
      clear hV
      rw [hX]
      clear hX V
      go_enter Tryz.func84, Tryz.ntmps84
      go_wp2_with fail
      refine c1.mono ?_
      rintro e w1 ⟨rfl, b1⟩
      have B1 := B0.trans (b1.mono B0.size)
      have Z1 := (b1.block _ hs0).trans Z0
      obtain ⟨y0, y1, y2, y3, y4, yf⟩ := box5 Z1
      clear c1 b1 B0 Z0 Z1 z0 z1 z2 z3 z4 zf
      go_wp2
      go_ret
      exact ⟨ret_bool (by first | rfl | simp), B1⟩
    · have pb : ¬ 0 ≤ n := p
      have hX : V = false := by rw [hV]; simp [numB, namB, call_rng, quant_rng, p]
      clear hV
      rw [hX]
      clear hX V
      go_enter Tryz.func84, Tryz.ntmps84
      go_wp2_with fail
      refine c1.mono ?_
      rintro e w1 ⟨rfl, b1⟩
      have B1 := B0.trans (b1.mono B0.size)
      have Z1 := (b1.block _ hs0).trans Z0
      obtain ⟨y0, y1, y2, y3, y4, yf⟩ := box5 Z1
      clear c1 b1 B0 Z0 Z1 z0 z1 z2 z3 z4 zf
      go_wp2
      go_ret
      exact ⟨ret_bool (by first | rfl | simp), B1⟩
  have b1 : (k == 1) = false := bne h1
  by_cases h3 : k = 3
  · subst h3
    by_cases p : 0 ≤ n
    · have pb : 0 ≤ n := p
      have hX : V = (nm == []) := by rw [hV]; simp [numB, namB, call_rng, quant_rng, p]
      clear hV
      rw [hX]
      clear hX V
      go_enter Tryz.func84, Tryz.ntmps84
      go_wp2_with fail
      refine c1.mono ?_
      rintro e w1 ⟨rfl, b1⟩
      have B1 := B0.trans (b1.mono B0.size)
      have Z1 := (b1.block _ hs0).trans Z0
      obtain ⟨y0, y1, y2, y3, y4, yf⟩ := box5 Z1
      clear c1 b1 B0 Z0 Z1 z0 z1 z2 z3 z4 zf
      go_wp2
      go_ret
      exact ⟨ret_bool (by first | rfl | simp), B1⟩
    · have pb : ¬ 0 ≤ n := p
      have hX : V = false := by rw [hV]; simp [numB, namB, call_rng, quant_rng, p]
      clear hV
      rw [hX]
      clear hX V
      go_enter Tryz.func84, Tryz.ntmps84
      go_wp2_with fail
      refine c1.mono ?_
      rintro e w1 ⟨rfl, b1⟩
      have B1 := B0.trans (b1.mono B0.size)
      have Z1 := (b1.block _ hs0).trans Z0
      obtain ⟨y0, y1, y2, y3, y4, yf⟩ := box5 Z1
      clear c1 b1 B0 Z0 Z1 z0 z1 z2 z3 z4 zf
      go_wp2
      go_ret
      exact ⟨ret_bool (by first | rfl | simp), B1⟩
  have b3 : (k == 3) = false := bne h3
  by_cases h2 : k = 2
  · subst h2
    by_cases p : n = 0
    · subst p
      have hX : V = (nm == []) := by rw [hV]; simp [numB, namB, call_rng, quant_rng]
      clear hV
      rw [hX]
      clear hX V
      go_enter Tryz.func84, Tryz.ntmps84
      go_wp2_with fail
      refine c1.mono ?_
      rintro e w1 ⟨rfl, b1⟩
      have B1 := B0.trans (b1.mono B0.size)
      have Z1 := (b1.block _ hs0).trans Z0
      obtain ⟨y0, y1, y2, y3, y4, yf⟩ := box5 Z1
      clear c1 b1 B0 Z0 Z1 z0 z1 z2 z3 z4 zf
      go_wp2
      go_ret
      exact ⟨ret_bool (by first | rfl | simp), B1⟩
    · have pb : (n == 0) = false := by simpa using p
      by_cases r : n = 1
      · subst r
        have hX : V = (nm == []) := by rw [hV]; simp [numB, namB, call_rng, quant_rng]
        clear hV
        rw [hX]
        clear hX V
        go_enter Tryz.func84, Tryz.ntmps84
        go_wp2_with fail
        refine c1.mono ?_
        rintro e w1 ⟨rfl, b1⟩
        have B1 := B0.trans (b1.mono B0.size)
        have Z1 := (b1.block _ hs0).trans Z0
        obtain ⟨y0, y1, y2, y3, y4, yf⟩ := box5 Z1
        clear c1 b1 B0 Z0 Z1 z0 z1 z2 z3 z4 zf
        go_wp2
        go_ret
        exact ⟨ret_bool (by first | rfl | simp), B1⟩
      · have rb : (n == 1) = false := by simpa using r
        have hX : V = false := by rw [hV]; simp [numB, namB, call_rng, quant_rng, p, r]
        clear hV
        clear p r
        rw [hX]
        clear hX V
        go_enter Tryz.func84, Tryz.ntmps84
        go_wp2_with fail
        refine c1.mono ?_
        rintro e w1 ⟨rfl, b1⟩
        have B1 := B0.trans (b1.mono B0.size)
        have Z1 := (b1.block _ hs0).trans Z0
        obtain ⟨y0, y1, y2, y3, y4, yf⟩ := box5 Z1
        clear c1 b1 B0 Z0 Z1 z0 z1 z2 z3 z4 zf
        go_wp2
        go_ret
        exact ⟨ret_bool (by first | rfl | simp), B1⟩
  have b2 : (k == 2) = false := bne h2
  by_cases h4 : k = 4
  · subst h4
    by_cases p : n = 0
    · subst p
      have hX : V = nameB nm := by rw [hV]; simp [numB, namB, call_rng, quant_rng]
      clear hV
      rw [hX]
      clear hX V
      go_enter Tryz.func84, Tryz.ntmps84
      go_wp2_with fail
      refine c1.mono ?_
      rintro e w1 ⟨rfl, b1⟩
      have B1 := B0.trans (b1.mono B0.size)
      have Z1 := (b1.block _ hs0).trans Z0
      obtain ⟨y0, y1, y2, y3, y4, yf⟩ := box5 Z1
      clear c1 b1 B0 Z0 Z1 z0 z1 z2 z3 z4 zf
      go_wp2
      go_ret
      exact ⟨ret_bool (by first | rfl | simp), B1⟩
    · have pb : (n == 0) = false := by simpa using p
      have hX : V = false := by rw [hV]; simp [numB, namB, call_rng, quant_rng, p]
      clear hV
      clear p
      rw [hX]
      clear hX V
      go_enter Tryz.func84, Tryz.ntmps84
      go_wp2_with fail
      refine c1.mono ?_
      rintro e w1 ⟨rfl, b1⟩
      have B1 := B0.trans (b1.mono B0.size)
      have Z1 := (b1.block _ hs0).trans Z0
      obtain ⟨y0, y1, y2, y3, y4, yf⟩ := box5 Z1
      clear c1 b1 B0 Z0 Z1 z0 z1 z2 z3 z4 zf
      go_wp2
      go_ret
      exact ⟨ret_bool (by first | rfl | simp), B1⟩
  have b4 : (k == 4) = false := bne h4
  by_cases h23 : k = 23
  · subst h23
    by_cases p : n = 0
    · subst p
      have hX : V = nameB nm := by rw [hV]; simp [numB, namB, call_rng, quant_rng]
      clear hV
      rw [hX]
      clear hX V
      go_enter Tryz.func84, Tryz.ntmps84
      go_wp2_with fail
      refine c1.mono ?_
      rintro e w1 ⟨rfl, b1⟩
      have B1 := B0.trans (b1.mono B0.size)
      have Z1 := (b1.block _ hs0).trans Z0
      obtain ⟨y0, y1, y2, y3, y4, yf⟩ := box5 Z1
      clear c1 b1 B0 Z0 Z1 z0 z1 z2 z3 z4 zf
      go_wp2
      go_ret
      exact ⟨ret_bool (by first | rfl | simp), B1⟩
    · have pb : (n == 0) = false := by simpa using p
      have hX : V = false := by rw [hV]; simp [numB, namB, call_rng, quant_rng, p]
      clear hV
      clear p
      rw [hX]
      clear hX V
      go_enter Tryz.func84, Tryz.ntmps84
      go_wp2_with fail
      refine c1.mono ?_
      rintro e w1 ⟨rfl, b1⟩
      have B1 := B0.trans (b1.mono B0.size)
      have Z1 := (b1.block _ hs0).trans Z0
      obtain ⟨y0, y1, y2, y3, y4, yf⟩ := box5 Z1
      clear c1 b1 B0 Z0 Z1 z0 z1 z2 z3 z4 zf
      go_wp2
      go_ret
      exact ⟨ret_bool (by first | rfl | simp), B1⟩
  have b23 : (k == 23) = false := bne h23
  by_cases h20 : k = 20
  · subst h20
    by_cases p : 1 ≤ n
    · have pb : 1 ≤ n := p
      by_cases r : n ≤ 10
      · have rb : n ≤ 10 := r
        have hX : V = (nm == []) := by rw [hV]; simp [numB, namB, call_rng, quant_rng, p, r]
        clear hV
        rw [hX]
        clear hX V
        go_enter Tryz.func84, Tryz.ntmps84
        go_wp2_with fail
        refine c1.mono ?_
        rintro e w1 ⟨rfl, b1⟩
        have B1 := B0.trans (b1.mono B0.size)
        have Z1 := (b1.block _ hs0).trans Z0
        obtain ⟨y0, y1, y2, y3, y4, yf⟩ := box5 Z1
        clear c1 b1 B0 Z0 Z1 z0 z1 z2 z3 z4 zf
        go_wp2
        go_ret
        exact ⟨ret_bool (by first | rfl | simp), B1⟩
      · have rb : ¬ n ≤ 10 := r
        have hX : V = false := by rw [hV]; simp [numB, namB, call_rng, quant_rng, p, r]
        clear hV
        rw [hX]
        clear hX V
        go_enter Tryz.func84, Tryz.ntmps84
        go_wp2_with fail
        refine c1.mono ?_
        rintro e w1 ⟨rfl, b1⟩
        have B1 := B0.trans (b1.mono B0.size)
        have Z1 := (b1.block _ hs0).trans Z0
        obtain ⟨y0, y1, y2, y3, y4, yf⟩ := box5 Z1
        clear c1 b1 B0 Z0 Z1 z0 z1 z2 z3 z4 zf
        go_wp2
        go_ret
        exact ⟨ret_bool (by first | rfl | simp), B1⟩
    · have pb : ¬ 1 ≤ n := p
      have hX : V = false := by rw [hV]; simp [numB, namB, call_rng, quant_rng, p]
      clear hV
      rw [hX]
      clear hX V
      go_enter Tryz.func84, Tryz.ntmps84
      go_wp2_with fail
      refine c1.mono ?_
      rintro e w1 ⟨rfl, b1⟩
      have B1 := B0.trans (b1.mono B0.size)
      have Z1 := (b1.block _ hs0).trans Z0
      obtain ⟨y0, y1, y2, y3, y4, yf⟩ := box5 Z1
      clear c1 b1 B0 Z0 Z1 z0 z1 z2 z3 z4 zf
      go_wp2
      go_ret
      exact ⟨ret_bool (by first | rfl | simp), B1⟩
  have b20 : (k == 20) = false := bne h20
  by_cases h21 : k = 21
  · subst h21
    by_cases p : 1 ≤ n
    · have pb : 1 ≤ n := p
      by_cases r : n ≤ 6
      · have rb : n ≤ 6 := r
        have hX : V = nameB nm := by rw [hV]; simp [numB, namB, call_rng, quant_rng, p, r]
        clear hV
        rw [hX]
        clear hX V
        go_enter Tryz.func84, Tryz.ntmps84
        go_wp2_with fail
        refine c1.mono ?_
        rintro e w1 ⟨rfl, b1⟩
        have B1 := B0.trans (b1.mono B0.size)
        have Z1 := (b1.block _ hs0).trans Z0
        obtain ⟨y0, y1, y2, y3, y4, yf⟩ := box5 Z1
        clear c1 b1 B0 Z0 Z1 z0 z1 z2 z3 z4 zf
        go_wp2
        go_ret
        exact ⟨ret_bool (by first | rfl | simp), B1⟩
      · have rb : ¬ n ≤ 6 := r
        have hX : V = false := by rw [hV]; simp [numB, namB, call_rng, quant_rng, p, r]
        clear hV
        rw [hX]
        clear hX V
        go_enter Tryz.func84, Tryz.ntmps84
        go_wp2_with fail
        refine c1.mono ?_
        rintro e w1 ⟨rfl, b1⟩
        have B1 := B0.trans (b1.mono B0.size)
        have Z1 := (b1.block _ hs0).trans Z0
        obtain ⟨y0, y1, y2, y3, y4, yf⟩ := box5 Z1
        clear c1 b1 B0 Z0 Z1 z0 z1 z2 z3 z4 zf
        go_wp2
        go_ret
        exact ⟨ret_bool (by first | rfl | simp), B1⟩
    · have pb : ¬ 1 ≤ n := p
      have hX : V = false := by rw [hV]; simp [numB, namB, call_rng, quant_rng, p]
      clear hV
      rw [hX]
      clear hX V
      go_enter Tryz.func84, Tryz.ntmps84
      go_wp2_with fail
      refine c1.mono ?_
      rintro e w1 ⟨rfl, b1⟩
      have B1 := B0.trans (b1.mono B0.size)
      have Z1 := (b1.block _ hs0).trans Z0
      obtain ⟨y0, y1, y2, y3, y4, yf⟩ := box5 Z1
      clear c1 b1 B0 Z0 Z1 z0 z1 z2 z3 z4 zf
      go_wp2
      go_ret
      exact ⟨ret_bool (by first | rfl | simp), B1⟩
  have b21 : (k == 21) = false := bne h21
  by_cases p : n = 0
  · subst p
    have hX : V = (nm == []) := by rw [hV]; simp [numB, namB, call_rng, quant_rng, h1, h3, h2, h4, h23, h20, h21]
    clear hV
    clear h1 h3 h2 h4 h23 h20 h21
    rw [hX]
    clear hX V
    go_enter Tryz.func84, Tryz.ntmps84
    go_wp2_with fail
    refine c1.mono ?_
    rintro e w1 ⟨rfl, b1⟩
    have B1 := B0.trans (b1.mono B0.size)
    have Z1 := (b1.block _ hs0).trans Z0
    obtain ⟨y0, y1, y2, y3, y4, yf⟩ := box5 Z1
    clear c1 b1 B0 Z0 Z1 z0 z1 z2 z3 z4 zf
    go_wp2
    go_ret
    exact ⟨ret_bool (by first | rfl | simp), B1⟩
  · have pb : (n == 0) = false := by simpa using p
    have hX : V = false := by rw [hV]; simp [numB, namB, call_rng, quant_rng, h1, h3, h2, h4, h23, h20, h21, p]
    clear hV
    clear p h1 h3 h2 h4 h23 h20 h21
    rw [hX]
    clear hX V
    go_enter Tryz.func84, Tryz.ntmps84
    go_wp2_with fail
    refine c1.mono ?_
    rintro e w1 ⟨rfl, b1⟩
    have B1 := B0.trans (b1.mono B0.size)
    have Z1 := (b1.block _ hs0).trans Z0
    obtain ⟨y0, y1, y2, y3, y4, yf⟩ := box5 Z1
    clear c1 b1 B0 Z0 Z1 z0 z1 z2 z3 z4 zf
    go_wp2
    go_ret
    exact ⟨ret_bool (by first | rfl | simp), B1⟩
end Go.Proofs.YtafnlhnenmpfoaaGreatDoor
namespace Go.Proofs.YtafnlhnenmpfoaaGreatDoor
open Go.ChangeShapes Go.WideShapes Go.ChangeAt Go.RowKit
set_option linter.unusedVariables false
set_option linter.unusedSimpArgs false

theorem digit_of (k : Nat) (hk : k < 10) : ((UInt8.ofNat (48 + k)).toNat : Int) = 48 + (k : Int) := by
  rw [UInt8.toNat_ofNat']
  omega
theorem text_dig (w : World) (b k : Nat) (hk : k < 10) (hb : w.heap[b]? = some (.cells #[.int .u8 (48 + (k : Int))] 5 (0, 0))) :
    (convert 88 9 (.slice (some ⟨b, 0, none⟩) 1 1)).run Tryz.prog w = .ok (.string ⟨#[UInt8.ofNat (48 + k)]⟩) w :=
  run_convert_bytes_back _ 88 9 5 ⟨b, 0, none⟩ 1 [UInt8.ofNat (48 + k)] Tryz.underlying88 Tryz.underlying5 Tryz.underlying9
    (fun j hj => by
      have e : j = 0 := by simp at hj; omega
      subst e
      have := digit_of k hk
      simp only [List.getElem_cons_zero]
      rw [this]
      show w.cell? ⟨b, 0 + 0, none⟩ = _
      rw [cell_of_row w b _ _ _ (0, 0) hb]
      rfl)
theorem cat_dig (l : List UInt8) (c : UInt8) : (⟨l.toArray⟩ : ByteArray) ++ ⟨#[c]⟩ = ⟨(l ++ [c]).toArray⟩ := by
  apply ByteArray.ext
  simp
def DigOk (n : Nat) : Prop := ∀ w : World, Calls Tryz.prog 87 #[.int .i64 (n : Nat)] w fun e w' => e = .returned (stv (Go.Lib.decDigits n)) ∧ Below w.heap.size w w'
set_option maxRecDepth 100000 in
set_option maxHeartbeats 2000000 in
theorem dig_small (n : Nat) (h : n < 10) : DigOk n := by
  intro w
  rw [Go.Lib.decDigits, dif_pos h]
  have B0 : Below w.heap.size w (w.alloc (.cells #[.int .u8 (48 + (n : Int))] 5)) := (Below.refl _ w).alloc (Nat.le_refl _) _
  have F0 := text_dig (w.alloc (.cells #[.int .u8 (48 + (n : Int))] 5)) w.heap.size n h (heap_alloc_new w _)
  obtain ⟨c, hc⟩ : ∃ c, c = UInt8.ofNat (48 + n) := ⟨_, rfl⟩
  rw [← hc] at F0 ⊢
  clear hc
  have hI : (n : Int) < 10 := by omega
  have hw : IntKind.u8.wrap (48 + (n : Int)) = 48 + (n : Int) := by show (48 + (n : Int)) % 256 = _; omega
  go_enter Tryz.func87, Tryz.ntmps87
  go_wp2
  go_ret
  exact ⟨rfl, B0⟩
set_option maxRecDepth 100000 in
set_option maxHeartbeats 2000000 in
theorem dig_big (n : Nat) (h : ¬ n < 10) (hn : n ≤ 9223372036854775807) (IH : DigOk (n / 10)) : DigOk n := by
  intro w
  rw [Go.Lib.decDigits, dif_neg h]
  have hm : n % 10 < 10 := Nat.mod_lt _ (by omega)
  have HT : Hid (∀ (wx : World) (b : Nat), wx.heap[b]? = some (.cells #[.int .u8 (48 + ((n % 10 : Nat) : Int))] 5 (0, 0)) → (convert 88 9 (.slice (some ⟨b, 0, none⟩) 1 1)).run Tryz.prog wx = .ok (.string ⟨#[UInt8.ofNat (48 + n % 10)]⟩) wx) := fun wx b hb => text_dig wx b (n % 10) hm hb
  have IH := fun wx => IH wx
  have e1 : IntKind.i64.wrap (Int.tdiv (n : Int) 10) = ((n / 10 : Nat) : Int) := by rw [IntKind.wrap_i64, show Int.tdiv (n : Int) 10 = ((n / 10 : Nat) : Int) from rfl]; omega
  have e2 : IntKind.i64.wrap (Int.tmod (n : Int) 10) = ((n % 10 : Nat) : Int) := by rw [IntKind.wrap_i64, show Int.tmod (n : Int) 10 = ((n % 10 : Nat) : Int) from rfl]; omega
  have e3 : Int.tdiv (n : Int) 10 = ((n / 10 : Nat) : Int) := rfl
  have e4 : Int.tmod (n : Int) 10 = ((n % 10 : Nat) : Int) := rfl
  obtain ⟨q, hq⟩ : ∃ q, q = n / 10 := ⟨_, rfl⟩
  obtain ⟨r, hr⟩ : ∃ r, r = n % 10 := ⟨_, rfl⟩
  rw [← hq] at IH e1 e3 ⊢
  rw [← hr] at HT e2 e4 hm ⊢
  obtain ⟨c, hc⟩ : ∃ c, c = UInt8.ofNat (48 + r) := ⟨_, rfl⟩
  rw [← hc] at HT ⊢
  obtain ⟨L, hL⟩ : ∃ L, L = Go.Lib.decDigits q := ⟨_, rfl⟩
  have hl9 : L.length ≤ 21 := by
    have h9 := Go.Lib.itoa_length_le (q : Nat) (by omega) (by omega)
    unfold Go.Lib.itoa at h9
    rw [if_neg (by omega), Int.toNat_natCast, ← hL] at h9
    exact h9
  have hsm := size_mk L
  rw [← hL] at IH ⊢
  have HN : Hid (n ≤ 9223372036854775807) := hn
  have hq1 : IntKind.i64.wrap (q : Int) = (q : Int) := by rw [IntKind.wrap_i64]; omega
  have hr1 : IntKind.i64.wrap (48 + (r : Int)) = 48 + (r : Int) := by rw [IntKind.wrap_i64]; omega
  clear hq hr hc hL e1 e2
  have hI : ¬ (n : Int) < 10 := by omega
  have hw : IntKind.u8.wrap (48 + (r : Int)) = 48 + (r : Int) := by show (48 + (r : Int)) % 256 = _; omega
  have F1 := HT.out ((w.alloc (.cells #[.int .u8 (48 + (r : Int))] 5)).drew) w.heap.size (heap_alloc_new w _)
  have B0 : Below w.heap.size w (w.alloc (.cells #[.int .u8 (48 + (r : Int))] 5)).drew := ((Below.refl _ w).alloc (Nat.le_refl _) _).drew
  have hs0 : w.heap.size < (w.alloc (.cells #[.int .u8 (48 + (r : Int))] 5)).drew.heap.size := by show w.heap.size < (w.alloc _).heap.size; simp
  have hbl : ((w.alloc (.cells #[.int .u8 (48 + (r : Int))] 5)).drew).heap[w.heap.size]? = some (.cells #[.int .u8 (48 + (r : Int))] 5 (0, 0)) := heap_alloc_new w _
  have Hbl := Lib.hid hbl
  clear hbl
  have HC : Hid (((⟨L.toArray⟩ : ByteArray) ++ ⟨#[c]⟩) = ⟨(L ++ [c]).toArray⟩) := cat_dig L c
  go_enter Tryz.func87, Tryz.ntmps87
  go_upto_region 3 with fail
  go_region_with ((first | (go_at_call 87; refine (IH w.drew).mono ?_; rintro e w1 ⟨rfl, b1⟩; have B1 : Below w.heap.size w w1 := (Below.refl _ w).drew.trans b1; have B2 : Below w.heap.size w (w1.alloc (.cells #[.int .u8 (48 + (r : Int))] 5)) := B1.alloc B1.size _; have F2 := HT.out (w1.alloc (.cells #[.int .u8 (48 + (r : Int))] 5)) w1.heap.size (heap_alloc_new w1 _)) | (go_at_call 87; refine (IH ((w.alloc (.cells #[.int .u8 (48 + (r : Int))] 5)).drew)).mono ?_; rintro e w1 ⟨rfl, b1⟩; have B2 : Below w.heap.size w w1 := B0.trans (b1.mono B0.size); have F2 := HT.out w1 w.heap.size ((b1.block _ hs0).trans Hbl.out))))
  all_goals
    rw [HC.out]
    go_wp2
    go_ret
    exact ⟨rfl, B2⟩
theorem dig_all : ∀ (m n : Nat), n ≤ m → n ≤ 9223372036854775807 → DigOk n
  | 0, n, hm, hn => dig_small n (by omega)
  | m + 1, n, hm, hn => by
    by_cases h : n < 10
    · exact dig_small n h
    · exact dig_big n h hn (dig_all m (n / 10) (by omega) (by omega))
theorem digits_q (n : Int) (h0 : 0 ≤ n) (h1 : n ≤ 9223372036854775807) (w : World) : Calls Tryz.prog 87 #[.int .i64 n] w fun e w' => e = .returned (stv (Go.Lib.itoa n)) ∧ Below w.heap.size w w' := by
  have h := dig_all n.toNat n.toNat (Nat.le_refl _) (by omega) w
  rw [show ((n.toNat : Nat) : Int) = n by omega] at h
  have e : Go.Lib.itoa n = Go.Lib.decDigits n.toNat := by unfold Go.Lib.itoa; rw [if_neg (by omega)]
  rw [e]
  exact h
theorem sign_at (x : List UInt8 × Nat × Nat × Nat × Nat) (hx : x ∈ opsL) : (x.2.2.1 = 1 ∨ x.2.2.1 = 2 ∨ x.2.2.1 = 4 ∨ x.2.2.1 = 5 ∨ x.2.2.1 = 6) ∧ ∃ i, i < 4 ∧ (sgW x.2.2.1)[i]? = some x.1 ∧ (sgK x.2.2.1)[i]? = some x.2.1 ∧ (∀ j, j < i → (sgK x.2.2.1)[j]? ≠ some x.2.1) ∧ ∀ r, r < x.2.2.1 → r ≠ 3 → r ≠ 0 → ∀ j, j < 4 → (sgK r)[j]? ≠ some x.2.1 := by
  simp only [opsL, List.mem_cons, List.not_mem_nil, or_false] at hx
  rcases hx with rfl | rfl | rfl | rfl | rfl | rfl | rfl | rfl | rfl | rfl | rfl
  · exact ⟨by decide, 0, by decide, rfl, rfl, by decide, by decide⟩
  · exact ⟨by decide, 0, by decide, rfl, rfl, by decide, by decide⟩
  · exact ⟨by decide, 0, by decide, rfl, rfl, by decide, by decide⟩
  · exact ⟨by decide, 1, by decide, rfl, rfl, by decide, by decide⟩
  · exact ⟨by decide, 3, by decide, rfl, rfl, by decide, by decide⟩
  · exact ⟨by decide, 2, by decide, rfl, rfl, by decide, by decide⟩
  · exact ⟨by decide, 0, by decide, rfl, rfl, by decide, by decide⟩
  · exact ⟨by decide, 1, by decide, rfl, rfl, by decide, by decide⟩
  · exact ⟨by decide, 0, by decide, rfl, rfl, by decide, by decide⟩
  · exact ⟨by decide, 1, by decide, rfl, rfl, by decide, by decide⟩
  · exact ⟨by decide, 2, by decide, rfl, rfl, by decide, by decide⟩
theorem sg_len (r : Nat) : (sgK r).length = (sgW r).length ∧ (sgW r).length ≤ 4 := by
  unfold sgK sgW
  split <;> exact ⟨rfl, by decide⟩
set_option maxRecDepth 100000 in
set_option maxHeartbeats 4000000 in
theorem sign_q {k : Int} {x : List UInt8 × Nat × Nat × Nat × Nat} (h : opOf k = some x) (w : World) : Calls Tryz.prog 91 #[.int .i64 k] w fun e w' => e = .returned (stv x.1) ∧ Below w.heap.size w w' := by
  have hm := List.mem_of_find?_eq_some h
  have hk : ((x.2.1 : Nat) : Int) = k := by have := List.find?_some h; simpa using this
  obtain ⟨hr, ix, hix, hw, hkk, hj, hrow⟩ := sign_at x hm
  obtain ⟨x1, x2, r, x4, x5⟩ := x
  simp only at hk hr hw hkk hj hrow ⊢
  subst hk
  have HW : Hid ((sgW r)[ix]? = some x1) := hw
  have HK : Hid ((sgK r)[ix]? = some x2) := hkk
  have HJ : Hid (∀ j, j < ix → (sgK r)[j]? ≠ some x2) := hj
  have HR : Hid (∀ r', r' < r → r' ≠ 3 → r' ≠ 0 → ∀ j, j < 4 → (sgK r')[j]? ≠ some x2) := hrow
  have hr7 : r < 7 := by omega
  have HR3 : Hid (r ≠ 3) := by show r ≠ 3; omega
  have B0 := Below.refl w.heap.size w
  clear hw hkk hj hrow hm h
  go_enter Tryz.func91, Tryz.ntmps91
  go_wp2_with fail
  go_loopw [3] (fun v wr => ∃ row : Nat, v = .int .i64 (row : Nat) ∧ 1 ≤ row ∧ row ≤ r ∧ Below w.heap.size w wr) (fun v _ => 8 - (intOf v).toNat)
  case atStart => exact ⟨1, by go_num, by omega, by omega, B0⟩
  case round =>
    clear B0
    obtain ⟨row, rfl, h1, hle, B1⟩ := hrel
    have hrI : (row : Int) < 7 := by omega
    by_cases h3 : row = 3
    · subst h3
      have hlt : 3 < r := by have := HR3.out; omega
      go_wp2
      go_roundw
      case rel => (try ((repeat apply Exists.intro); refine ⟨?_, rfl⟩)); exact ⟨4, by go_num, by omega, by omega, B1⟩
      case measure => simp [intOf]
    · have b3 : ((row : Int) == 3) = false := by simp; omega
      obtain ⟨n, hn⟩ : ∃ n, n = (sgW row).length := ⟨_, rfl⟩
      have c := signs_s wr row n (by omega) hn
      have HN : Hid (n = (sgW row).length) := hn
      have hn4 : n ≤ 4 := by rw [hn]; exact (sg_len row).2
      have H3 : Hid (row ≠ 3) := h3
      clear hn h3 hr
      go_wp2_with fail
      refine c.mono ?_
      rintro e w2 ⟨g1, g2, rfl, sg⟩
      have B2 : Below w.heap.size w w2 := B1.trans (sg.1.1.mono B1.size)
      have SG : Hid (g1 < w2.heap.size ∧ g2 < w2.heap.size ∧ (∀ j s, (sgW row)[j]? = some s → w2.cell? ⟨g1, j, none⟩ = some (stv s)) ∧ ∀ j k, (sgK row)[j]? = some k → w2.cell? ⟨g2, j, none⟩ = some (.int .i64 (k : Nat))) := ⟨sg.1.2.2.1, sg.2.2.1, sg.1.2.2.2, sg.2.2.2⟩
      clear c sg B1
      go_wp2_with fail
      go_loopw [6] (fun v wr => ∃ i : Nat, v = .int .i64 (i : Nat) ∧ i ≤ n ∧ Hid (row = r → i ≤ ix) ∧ wr = w2) (fun v _ => n - (intOf v).toNat)
      case atStart => exact ⟨0, by go_num, by omega, fun _ => Nat.zero_le _, rfl⟩
      case round =>
        obtain ⟨i, rfl, hin, HI, rfl⟩ := hrel
        by_cases hlt : i < n
        · have hiI : (i : Int) < (n : Int) := by omega
          have hl := sg_len row
          obtain ⟨kk, hkk⟩ : ∃ kk, (sgK row)[i]? = some kk := ⟨_, List.getElem?_eq_getElem (by rw [hl.1, ← HN.out]; exact hlt)⟩
          obtain ⟨s, hs⟩ : ∃ s, (sgW row)[i]? = some s := ⟨_, List.getElem?_eq_getElem (by rw [← HN.out]; exact hlt)⟩
          have ck := SG.out.2.2.2 i kk hkk
          have cs := SG.out.2.2.1 i s hs
          by_cases hy : row = r ∧ i = ix
          · have e1 : kk = x2 := by
              have := HK.out
              rw [← hy.1, ← hy.2, hkk] at this
              injection this
            have e2 : s = x1 := by
              have := HW.out
              rw [← hy.1, ← hy.2, hs] at this
              injection this
            subst e1 e2
            clear hy hkk hs hl
            go_wp2
            go_ret
            exact ⟨rfl, B2⟩
          · have hne : kk ≠ x2 := fun e => by
              rw [e] at hkk
              by_cases hrr : row = r
              · have hi2 : i < ix := by
                  have := HI.out hrr
                  have : i ≠ ix := fun e => hy ⟨hrr, e⟩
                  omega
                exact HJ.out i hi2 (by rw [← hrr]; exact hkk)
              · exact HR.out row (by omega) H3.out (by omega) i (by omega) hkk
            have bne2 : ((kk : Int) == (x2 : Int)) = false := by simp; omega
            have HI2 : Hid (row = r → i + 1 ≤ ix) := fun e => by
              have := HI.out e
              have : i ≠ ix := fun e2 => hy ⟨e, e2⟩
              omega
            clear hy hkk hs hl hne HI
            go_wp2
            go_roundw
            case rel => (try ((repeat apply Exists.intro); refine ⟨?_, rfl⟩)); exact ⟨i + 1, by go_num, by omega, HI2, by trivial⟩
            case measure => simp [intOf]; omega
        · obtain rfl : i = n := by omega
          have hlt2 : row < r := by
            by_cases e : row = r
            · have h5 := HI.out e
              have h6 : ix < (sgW r).length := (List.getElem?_eq_some_iff.1 HW.out).1
              have h7 := HN.out
              rw [e] at h7
              omega
            · omega
          clear HI
          go_wp2
          go_roundw
          case rel => (try ((repeat apply Exists.intro); refine ⟨?_, rfl⟩)); exact ⟨row + 1, by go_num, by omega, by omega, B2⟩
          case measure => simp [intOf]; omega
end Go.Proofs.YtafnlhnenmpfoaaGreatDoor
