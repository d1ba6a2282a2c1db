/- From the walk of a law of package lex to its row: the tables and errors as the program lays them. -/
import Derived.Test.YtojleoionpnjpaaGreatDoorWrqK
import Derived.Test.YtojleoionpnjpaaGreatDoorRows
import Derived.SizedLaws
import Derived.Lib.LaidTab
import Derived.Stop.LaidErr
import Derived.ShutString
import Derived.Deep.DeepHandedRow
namespace Go.Proofs.YtojleoionpnjpaaGreatDoor
open Go.ChangeShapes Go.WideShapes Go.ChangeAt Go.RowKit
set_option linter.unusedVariables false
set_option linter.unusedSimpArgs false

set_option maxRecDepth 100000 in
set_option maxHeartbeats 2000000 in
theorem print_q (e : Ex) (ao : Option Addr) (cap : Nat) (w : World) (he : e.fit) (S : SlT w e.kids ao) :
    Calls Tryz.prog 24 #[exV e ao cap] w (PostP w (writA e)) := by
  obtain ⟨w1, hw1⟩ : ∃ w1, w1 = (w.alloc (bxX e ao cap)).alloc (.cells #[.slice none 0 0, .int .i64 0, .int .i64 0, .bool true] 89) := ⟨_, rfl⟩
  obtain ⟨be, hbe⟩ : ∃ be, be = w.heap.size := ⟨_, rfl⟩
  obtain ⟨o1, ho1⟩ : ∃ o1 : Nat → Nat, o1 = fun k => if k = be + 1 then 1 else 0 := ⟨_, rfl⟩
  have B1 : Below be w w1 := by rw [hw1, hbe]; exact ((Below.refl _ w).alloc (Nat.le_refl _) _).alloc (by simp) _
  have E1 : w1.heap[be]? = some (bxX e ao cap) := by
    rw [hw1, hbe]
    exact (Below.heap_alloc _ _ _ (by simp)).trans (heap_alloc_new w _)
  have W1 : w1.heap[be + 1]? = some (.cells #[.slice none 0 0, .int .i64 0, .int .i64 0, .bool true] 89 (0, 0)) := by
    rw [hw1, hbe]
    have := heap_alloc_new (w.alloc (bxX e ao cap)) (.cells #[.slice none 0 0, .int .i64 0, .int .i64 0, .bool true] 89)
    simpa using this
  have L1 : ∀ k, k ≤ be → o1 k = 0 := fun k hk => by rw [ho1]; show (if k = be + 1 then 1 else 0) = 0; rw [if_neg (by omega)]
  have L2 : o1 (be + 1) = 1 := by rw [ho1]; show (if be + 1 = be + 1 then 1 else 0) = 1; rw [if_pos rfl]
  have Q1 : WQ w1 o1 (be + 1) (some ⟨[], 0, 0⟩) := ⟨⟨.slice none 0 0, ⟨W1, L2⟩, Row.nil _ _ _ _ _⟩, by simp, by simp, by simp⟩
  have S1 : Sl w1 (L0 o1) e.kids ao := S.mono (fun i _ hl => B1.block i (by rw [hbe]; exact hl)) B1.size (fun i _ hl => L1 i (by omega))
  have c2 := wpart_all (e.kids.size + 1) e ao cap false (be + 1) _ w1 o1 (Nat.lt_succ_self _) he S1 Q1
  obtain ⟨R, hR⟩ : ∃ R, R = oEx e false (some ⟨[], 0, 0⟩) := ⟨_, rfl⟩
  rw [← hR] at c2
  have HR : Hid (writA e = R.map (·.t)) := by show _ = _; rw [← refA_eq, hR]; rfl
  obtain ⟨W, hW⟩ : ∃ W, W = writA e := ⟨_, rfl⟩
  rw [← hW] at HR ⊢
  obtain ⟨p0, p1, p2, p3, p4, pf⟩ := box5 E1
  rw [exV_out] at c2 ⊢
  clear S ho1 Q1 S1 hR hW
  go_enter Tryz.func24, Tryz.ntmps24
  go_upto_region 2 with fail
  rw [← hw1, ← hbe]
  have HB : Hid (be = w.heap.size) := hbe
  clear hw1 hbe W1
  go_wp2_with fail
  refine c2.mono ?_
  rintro e2 w2 ⟨rfl, o2, Q2, s2⟩
  have B2 : Below be w w2 := below_stepB B1 s2 (fun k hk hi => by rw [L1 k (by omega)] at hi; rcases hi with h | h <;> omega) (by rw [HB.out]; exact Nat.le_refl _)
  have B3 : Hid (Below w.heap.size w w2) := by show Below w.heap.size w w2; rw [← HB.out]; exact B2
  clear c2 s2 B1 B2 L1 L2 p0 p1 p2 p3 p4 pf E1 HB
  cases R with
  | none =>
    obtain ⟨c3, cf, -, -⟩ := Q2.end
    have c3 : w2.cell? ⟨be + 1, 3, none⟩ = some (.bool false) := c3
    have FIN : Hid (W = none) := HR.out
    clear HR Q2
    go_wp2
    go_ret2
    exact ⟨by rw [FIN.out]; rfl, B3.out⟩
  | some s =>
    obtain ⟨c3, cf, -, -⟩ := Q2.end
    have c3 : w2.cell? ⟨be + 1, 3, none⟩ = some (.bool true) := c3
    obtain ⟨⟨v, hb, hr⟩, -⟩ := Q2
    obtain ⟨d0, d1, d2, d3, df⟩ := Blk.cells4 hb
    have F := row_text hr
    obtain ⟨aov, capv, rfl⟩ := hr.form
    have FIN : Hid (W = some s.t) := HR.out
    clear HR hb hr d1 d2 d3
    go_wp2
    go_ret2
    exact ⟨by rw [FIN.out]; rfl, B3.out⟩
set_option maxRecDepth 100000 in
theorem right_q (e : Ex) (ao : Option Addr) (cap : Nat) (w : World) (he : e.fit) (S : SlT w e.kids ao) :
    Calls Tryz.prog 13 #[exV e ao cap] w fun x w' => x = .returned (.bool (writA e).isSome) ∧ Below w.heap.size w w' := by
  have B0 : Below w.heap.size w (w.alloc (bxX e ao cap)) := (Below.refl _ w).alloc (Nat.le_refl _) _
  have E0 : (w.alloc (bxX e ao cap)).heap[w.heap.size]? = some (bxX e ao cap) := heap_alloc_new w _
  have c1 := print_q e ao cap (w.alloc (bxX e ao cap)) he (SlT.below S B0)
  obtain ⟨p0, p1, p2, p3, p4, pf⟩ := box5 E0
  rw [exV_out] at c1 ⊢
  generalize writA e = W at *
  go_enter Tryz.func13, Tryz.ntmps13
  go_wp2_with fail
  refine c1.mono ?_
  rintro e2 w1 ⟨rfl, b1⟩
  have B1 := B0.trans (b1.mono B0.size)
  clear c1 p0 p1 p2 p3 p4 pf E0
  cases W with
  | none =>
    go_wp2
    go_ret
    exact ⟨rfl, B1⟩
  | some t =>
    go_wp2
    go_ret
    exact ⟨rfl, B1⟩
end Go.Proofs.YtojleoionpnjpaaGreatDoor
namespace Go.Proofs.YtojleoionpnjpaaGreatDoor
open Go.ChangeShapes Go.WideShapes Go.ChangeAt Go.RowKit
set_option linter.unusedVariables false
set_option linter.unusedSimpArgs false

theorem new_two_a (w : World) (A B : Obj) : ((w.alloc A).alloc B).heap[w.heap.size]? = some A := (Below.heap_alloc (w.alloc A) B w.heap.size (by simp)).trans (heap_alloc_new w A)
theorem new_two_b (w : World) (A B : Obj) : ((w.alloc A).alloc B).heap[w.heap.size + 1]? = some B := by
  have h := heap_alloc_new (w.alloc A) B
  rw [show (w.alloc A).heap.size = w.heap.size + 1 by simp] at h
  exact h
theorem quant_fit {e : Ex} (q : Nat) (at_ : Int) (hq : q ≤ 6) (he : e.fit) : (quantX q [122, 57] at_ 0 e).fit :=
  ⟨by show ([122, 57] : List UInt8).length ≤ _; simp [maxLen], ⟨by show ([] : List UInt8).length ≤ _; simp [maxLen], by show (0 : Nat) ≤ _; omega, trivial, he.nm, he.len, he.sh, trivial⟩, by show (2 : Nat) ≤ _; omega, by show _ ≤ (q : Int); omega, by show (q : Int) ≤ _; omega, ⟨by show _ ≤ (0 : Int); omega, by show (0 : Int) ≤ _; omega, trivial, he.n1, he.n2, he.rng, trivial⟩⟩
theorem typ_quant {e : Ex} {t : List UInt8} {k : Int} (q : Nat) (at_ : Int) (h1 : 1 ≤ q) (h6 : q ≤ 6) (hw : writA (quantX q [122, 57] at_ 0 e) = some t) (he : chkE e [] = .inr k) :
    typA (quantX q [122, 57] at_ 0 e) = if k = (if (q : Int) ≤ 3 then 2 else 1) then (if (q : Int) ≤ 2 then 2 else 1, 0, 0) else (0, 131, e.a) := by
  unfold typA
  rw [hw]
  simp only
  rw [chk_quantX q [122, 57] at_ 0 he (by omega) (by omega)]
  by_cases hk : k = (if (q : Int) ≤ 3 then 2 else 1)
  · rw [if_pos hk, if_pos hk]
  · rw [if_neg hk, if_neg hk]
set_option maxRecDepth 100000 in
set_option maxHeartbeats 8000000 in
theorem typeQuants_walk (e : Ex) (ao : Option Addr) (cap : Nat) (at_ : Int) (w : World) (hl : e.kids.len ≤ maxLen) (hw : e.kids.wide) (hf : e.kids.size ≤ 100000000 → e.fit) (S : SlA w e.kids ao) (hat0 : -9223372036854775808 ≤ at_) (hat1 : at_ ≤ 9223372036854775807) (FX : FixT w) :
    Calls Tryz.prog 4 #[exV e ao cap, .int .i64 at_] w fun x w' => x = .returned (.bool true) ∧ Below w.heap.size w w' := by
  clear hat0 hat1
  have b0 : Below w.heap.size w (w.alloc (.cells #[.int .i64 e.k, .int .i64 e.n, stv e.nm, .slice ao e.kids.len cap, .int .i64 e.a] 25)) := (Below.refl _ w).alloc (Nat.le_refl _) _
  have X0 : (w.alloc (.cells #[.int .i64 e.k, .int .i64 e.n, stv e.nm, .slice ao e.kids.len cap, .int .i64 e.a] 25)).heap[w.heap.size]? = some (.cells #[.int .i64 e.k, .int .i64 e.n, stv e.nm, .slice ao e.kids.len cap, .int .i64 e.a] 25) := heap_alloc_new w _
  have S0 := SlA.below S b0
  have FX0 := FX.below b0
  rw [exV_out]
  go_enter Tryz.func4, Tryz.ntmps4
  go_upto_region 1 with fail
  generalize w.alloc (.cells #[.int .i64 e.k, .int .i64 e.n, stv e.nm, .slice ao e.kids.len cap, .int .i64 e.a] 25) = w0 at *
  have HB : Hid (Below w.heap.size w w0) := b0
  have hbx1 : w.heap.size ≤ w0.heap.size := b0.size
  generalize hbx : w.heap.size = bx at X0 ⊢
  clear hbx S FX b0
  have hx0 := lt_of_block X0
  have B0 := Below.refl w0.heap.size w0
  obtain ⟨p0, p1, p2, p3, p4, pf⟩ := box5 ((B0.block _ hx0).trans X0)
  have c := heavy_r e ao cap w0 hl hw S0
  rw [exV_out] at c
  go_wp2_with fail
  refine c.mono ?_
  rintro x w1 ⟨rfl, bw⟩
  clear c p0 p1 p2 p3 p4 pf
  have B1 := B0.trans (bw.mono B0.size)
  clear bw B0
  cases h1 : heavyB e with
  | true =>
    go_wp2
    go_ret
    exact ⟨rfl, HB.out.trans (B1.mono hbx1)⟩
  | false =>
  have z1 := light h1
  have fe := hf (by omega)
  clear h1 hf
  obtain ⟨p0, p1, p2, p3, p4, pf⟩ := box5 ((B1.block _ hx0).trans X0)
  have c := awaket_r w1 (FX0.below B1)
  go_wp2_with fail
  refine c.mono ?_
  rintro x w2 ⟨rfl, bw⟩
  clear c p0 p1 p2 p3 p4 pf
  have B2 := B1.trans (bw.mono B1.size)
  clear bw B1
  obtain ⟨ka, era, pa, hTa⟩ : ∃ (k : Int) (er : Nat) (p : Int), typA e = (k, er, p) := ⟨_, _, _, rfl⟩
  obtain ⟨p0, p1, p2, p3, p4, pf⟩ := box5 ((B2.block _ hx0).trans X0)
  have c := tcheck_r e ao cap w2 fe (FX0.below B2) (SlA.below S0 B2)
  rw [exV_out, hTa] at c
  go_wp2_with fail
  refine c.mono ?_
  rintro x w3 ⟨rfl, bw⟩
  clear c p0 p1 p2 p3 p4 pf
  have B3 := B2.trans (bw.mono B2.size)
  clear bw B2
  simp only [tupT]
  by_cases hea : ¬ era = 0
  · have hne : ((era : Int) != 0) = true := by simp; omega
    have HZ : Hid (Below w0.heap.size w0 w3) := B3
    clear B3
    go_wp2
    go_ret
    exact ⟨rfl, HB.out.trans (HZ.out.mono hbx1)⟩
  have hea := Decidable.not_not.1 hea
  subst hea
  have HKA : Hid (chkE e [] = .inr ka) := (typA_ok hTa).1
  clear hTa
  go_wp2
  go_loopw [9] (fun v wr => ∃ q : Nat, 1 ≤ q ∧ q ≤ 7 ∧ v = .int .i64 (q : Nat) ∧ Below w0.heap.size w0 wr) (fun v _ => 7 - (intOf v).toNat)
  case atStart => exact ⟨1, by omega, by omega, by go_num, B3⟩
  case round =>
    clear B3
    obtain ⟨q, hq1, hq7, rfl, B4⟩ := hrel
    by_cases hq : q = 7
    · subst hq
      have HZ : Hid (Below w.heap.size w wr) := HB.out.trans (B4.mono hbx1)
      clear B4
      go_wp2
      go_ret
      exact ⟨rfl, HZ.out⟩
    have hq6 : q ≤ 6 := by omega
    have hqI : (q : Int) ≤ 6 := by omega
    obtain ⟨p0, p1, p2, p3, p4, pf⟩ := box5 ((B4.block _ hx0).trans X0)
    have Hs : ((wr.alloc (.cells #[.int .i64 22, .int .i64 0, .string ⟨#[]⟩, .slice none 0 0, .int .i64 0, .int .i64 e.k, .int .i64 e.n, stv e.nm, .slice ao e.kids.len cap, .int .i64 e.a] 25)).alloc (.cells #[.int .i64 21, .int .i64 (q : Nat), .string ⟨#[122, 57]⟩, .slice (some ⟨wr.heap.size, 0, none⟩) 2 2, .int .i64 at_] 25)).heap[wr.heap.size]? = some (.cells #[.int .i64 22, .int .i64 0, .string ⟨#[]⟩, .slice none 0 0, .int .i64 0, .int .i64 e.k, .int .i64 e.n, stv e.nm, .slice ao e.kids.len cap, .int .i64 e.a] 25 (0, 0)) := new_two_a wr _ _
    have Hx : ((wr.alloc (.cells #[.int .i64 22, .int .i64 0, .string ⟨#[]⟩, .slice none 0 0, .int .i64 0, .int .i64 e.k, .int .i64 e.n, stv e.nm, .slice ao e.kids.len cap, .int .i64 e.a] 25)).alloc (.cells #[.int .i64 21, .int .i64 (q : Nat), .string ⟨#[122, 57]⟩, .slice (some ⟨wr.heap.size, 0, none⟩) 2 2, .int .i64 at_] 25)).heap[wr.heap.size + 1]? = some (.cells #[.int .i64 21, .int .i64 (q : Nat), .string ⟨#[122, 57]⟩, .slice (some ⟨wr.heap.size, 0, none⟩) 2 2, .int .i64 at_] 25 (0, 0)) := new_two_b wr _ _
    have bz : Below wr.heap.size wr ((wr.alloc (.cells #[.int .i64 22, .int .i64 0, .string ⟨#[]⟩, .slice none 0 0, .int .i64 0, .int .i64 e.k, .int .i64 e.n, stv e.nm, .slice ao e.kids.len cap, .int .i64 e.a] 25)).alloc (.cells #[.int .i64 21, .int .i64 (q : Nat), .string ⟨#[122, 57]⟩, .slice (some ⟨wr.heap.size, 0, none⟩) 2 2, .int .i64 at_] 25)) := ((Below.refl _ wr).alloc (Nat.le_refl _) _).alloc (by simp) _
    go_upto_region 11 with fail
    generalize (wr.alloc (.cells #[.int .i64 22, .int .i64 0, .string ⟨#[]⟩, .slice none 0 0, .int .i64 0, .int .i64 e.k, .int .i64 e.n, stv e.nm, .slice ao e.kids.len cap, .int .i64 e.a] 25)).alloc (.cells #[.int .i64 21, .int .i64 (q : Nat), .string ⟨#[122, 57]⟩, .slice (some ⟨wr.heap.size, 0, none⟩) 2 2, .int .i64 at_] 25) = wc at *
    have B5 := B4.trans (bz.mono B4.size)
    generalize wr.heap.size + 1 = xb at *
    generalize wr.heap.size = sb at *
    have hss : sb < wc.heap.size := lt_of_block Hs
    have Sx : SlT wc (quantX q [122, 57] at_ 0 e).kids (some ⟨sb, 0, none⟩) := Sl.of trivial hss (xs := [.int .i64 22, .int .i64 0, .string ⟨#[]⟩, .slice none 0 0, .int .i64 0, .int .i64 e.k, .int .i64 e.n, stv e.nm, .slice ao e.kids.len cap, .int .i64 e.a]) (fun j u hu => by rw [Nat.zero_add, cell_of_row _ sb j _ _ (0, 0) Hs]; simpa using hu) ⟨none, 0, _, rfl, Sl.nil _ _ _, ao, cap, [], rfl, SlA.below S0 B5, rfl⟩
    have fx := quant_fit q at_ hq6 fe
    have c1 := right_q (quantX q [122, 57] at_ 0 e) (some ⟨sb, 0, none⟩) 2 wc fx Sx
    have hxv : exV (quantX q [122, 57] at_ 0 e) (some ⟨sb, 0, none⟩) 2 = .agg #[.int .i64 21, .int .i64 (q : Nat), .string ⟨#[122, 57]⟩, .slice (some ⟨sb, 0, none⟩) 2 2, .int .i64 at_] := rfl
    have hc2 := fun (w2 : World) h1 h2 => tcheck_r (quantX q [122, 57] at_ 0 e) (some ⟨sb, 0, none⟩) 2 w2 fx h1 h2
    rw [hxv] at c1 hc2
    obtain ⟨x0, x1, x2, x3, x4, xf⟩ := box5 Hx
    clear p0 p1 p2 p3 p4 pf Hs hss hxv B4 bz
    go_wp2_with fail
    refine c1.mono ?_
    rintro z w3 ⟨rfl, b3⟩
    have B6 := B5.trans (b3.mono B5.size)
    have Hx3 := (b3.block _ (lt_of_block Hx)).trans Hx
    have Sx3 := SlT.below Sx b3
    clear c1 x0 x1 x2 x3 x4 xf Hx Sx b3 B5
    cases hW : writA (quantX q [122, 57] at_ 0 e) with
    | none =>
      simp only [Option.isSome_none]
      have HZ : Hid (Below w0.heap.size w0 w3) := B6
      clear B6 hW hc2 fx Sx3 Hx3
      go_wp2
      go_roundw
      case rel => exact ⟨q + 1, by omega, by omega, by go_num, HZ.out⟩
      case measure => simp [intOf]; omega
    | some t =>
      simp only [Option.isSome_some]
      obtain ⟨x0, x1, x2, x3, x4, xf⟩ := box5 Hx3
      obtain ⟨p0, p1, p2, p3, p4, pf⟩ := box5 ((B6.block _ hx0).trans X0)
      have c2 := hc2 w3 (FX0.below B6) Sx3
      have HT : Hid (typA (quantX q [122, 57] at_ 0 e) = if ka = (if (q : Int) ≤ 3 then 2 else 1) then (if (q : Int) ≤ 2 then 2 else 1, 0, 0) else (0, 131, e.a)) := typ_quant q at_ hq1 hq6 hW HKA.out
      clear hc2 fx Sx3 hW
      have hq0 : 0 ≤ (q : Int) := by omega
      rcases (show q ≤ 2 ∨ q = 3 ∨ 4 ≤ q by omega) with hcl | hcl | hcl
      · have h2 : (q : Int) ≤ 2 := by omega
        have h3 : (q : Int) ≤ 3 := by omega
        have h3' : ¬ 3 < (q : Int) := by omega
        clear hcl
        by_cases hk : ka = 2
        · have hTT : typA (quantX q [122, 57] at_ 0 e) = (2, 0, 0) := by rw [HT.out, if_pos h3, if_pos hk, if_pos h2]
          have hkb1 : (ka == 2) = true := by simpa using hk
          rw [hTT] at c2
          clear hTT HT hk
          go_wp2_with fail
          refine c2.mono ?_
          rintro z w4 ⟨rfl, b4⟩
          have HZ : Hid (Below w0.heap.size w0 w4) := B6.trans (b4.mono B6.size)
          have pa4 := (b4.cell (p := ⟨bx, 4, none⟩) (Nat.lt_of_lt_of_le hx0 B6.size)).trans p4
          clear c2 b4 B6 x0 x1 x2 x3 x4 xf p0 p1 p2 p3 p4 pf Hx3
          go_wp2
          go_roundw
          case rel => exact ⟨q + 1, by omega, by omega, by go_num, HZ.out⟩
          case measure => simp [intOf]; omega
        · have hTT : typA (quantX q [122, 57] at_ 0 e) = (0, 131, e.a) := by rw [HT.out, if_pos h3, if_neg hk]
          have hkb1 : (ka == 2) = false := by simpa using hk
          rw [hTT] at c2
          clear hTT HT hk
          go_wp2_with fail
          refine c2.mono ?_
          rintro z w4 ⟨rfl, b4⟩
          have HZ : Hid (Below w0.heap.size w0 w4) := B6.trans (b4.mono B6.size)
          have pa4 := (b4.cell (p := ⟨bx, 4, none⟩) (Nat.lt_of_lt_of_le hx0 B6.size)).trans p4
          clear c2 b4 B6 x0 x1 x2 x3 x4 xf p0 p1 p2 p3 p4 pf Hx3
          go_wp2
          go_roundw
          case rel => exact ⟨q + 1, by omega, by omega, by go_num, HZ.out⟩
          case measure => simp [intOf]; omega
      · have h2 : ¬ (q : Int) ≤ 2 := by omega
        have h3 : (q : Int) ≤ 3 := by omega
        have h3' : ¬ 3 < (q : Int) := by omega
        clear hcl
        by_cases hk : ka = 2
        · have hTT : typA (quantX q [122, 57] at_ 0 e) = (1, 0, 0) := by rw [HT.out, if_pos h3, if_pos hk, if_neg h2]
          have hkb1 : (ka == 2) = true := by simpa using hk
          rw [hTT] at c2
          clear hTT HT hk
          go_wp2_with fail
          refine c2.mono ?_
          rintro z w4 ⟨rfl, b4⟩
          have HZ : Hid (Below w0.heap.size w0 w4) := B6.trans (b4.mono B6.size)
          have pa4 := (b4.cell (p := ⟨bx, 4, none⟩) (Nat.lt_of_lt_of_le hx0 B6.size)).trans p4
          clear c2 b4 B6 x0 x1 x2 x3 x4 xf p0 p1 p2 p3 p4 pf Hx3
          go_wp2
          go_roundw
          case rel => exact ⟨q + 1, by omega, by omega, by go_num, HZ.out⟩
          case measure => simp [intOf]; omega
        · have hTT : typA (quantX q [122, 57] at_ 0 e) = (0, 131, e.a) := by rw [HT.out, if_pos h3, if_neg hk]
          have hkb1 : (ka == 2) = false := by simpa using hk
          rw [hTT] at c2
          clear hTT HT hk
          go_wp2_with fail
          refine c2.mono ?_
          rintro z w4 ⟨rfl, b4⟩
          have HZ : Hid (Below w0.heap.size w0 w4) := B6.trans (b4.mono B6.size)
          have pa4 := (b4.cell (p := ⟨bx, 4, none⟩) (Nat.lt_of_lt_of_le hx0 B6.size)).trans p4
          clear c2 b4 B6 x0 x1 x2 x3 x4 xf p0 p1 p2 p3 p4 pf Hx3
          go_wp2
          go_roundw
          case rel => exact ⟨q + 1, by omega, by omega, by go_num, HZ.out⟩
          case measure => simp [intOf]; omega
      · have h2 : ¬ (q : Int) ≤ 2 := by omega
        have h3 : ¬ (q : Int) ≤ 3 := by omega
        have h3' : 3 < (q : Int) := by omega
        clear hcl
        by_cases hk : ka = 1
        · have hTT : typA (quantX q [122, 57] at_ 0 e) = (1, 0, 0) := by rw [HT.out, if_neg h3, if_pos hk, if_neg h2]
          have hkb1 : (ka == 1) = true := by simpa using hk
          rw [hTT] at c2
          clear hTT HT hk
          go_wp2_with fail
          refine c2.mono ?_
          rintro z w4 ⟨rfl, b4⟩
          have HZ : Hid (Below w0.heap.size w0 w4) := B6.trans (b4.mono B6.size)
          have pa4 := (b4.cell (p := ⟨bx, 4, none⟩) (Nat.lt_of_lt_of_le hx0 B6.size)).trans p4
          clear c2 b4 B6 x0 x1 x2 x3 x4 xf p0 p1 p2 p3 p4 pf Hx3
          go_wp2
          go_roundw
          case rel => exact ⟨q + 1, by omega, by omega, by go_num, HZ.out⟩
          case measure => simp [intOf]; omega
        · have hTT : typA (quantX q [122, 57] at_ 0 e) = (0, 131, e.a) := by rw [HT.out, if_neg h3, if_neg hk]
          have hkb1 : (ka == 1) = false := by simpa using hk
          rw [hTT] at c2
          clear hTT HT hk
          go_wp2_with fail
          refine c2.mono ?_
          rintro z w4 ⟨rfl, b4⟩
          have HZ : Hid (Below w0.heap.size w0 w4) := B6.trans (b4.mono B6.size)
          have pa4 := (b4.cell (p := ⟨bx, 4, none⟩) (Nat.lt_of_lt_of_le hx0 B6.size)).trans p4
          clear c2 b4 B6 x0 x1 x2 x3 x4 xf p0 p1 p2 p3 p4 pf Hx3
          go_wp2
          go_roundw
          case rel => exact ⟨q + 1, by omega, by omega, by go_num, HZ.out⟩
          case measure => simp [intOf]; omega
end Go.Proofs.YtojleoionpnjpaaGreatDoor
namespace Go.Proofs.YtojleoionpnjpaaGreatDoor
open Go.ChangeShapes Go.WideShapes Go.ChangeAt Go.RowKit
set_option linter.unusedVariables false

theorem ownK : ownKnob Tryz.prog.godebug = none := by kernel_rfl
theorem laidOut : laidOutB Tryz.prog = true := by kernel_rfl
theorem cellsInt : Tryz.prog.cellsOf 3 = 1 := by kernel_rfl
theorem bd_i64 {a : Int} (h : (Lit.int .i64 a).wf = true) : -9223372036854775808 ≤ a ∧ a ≤ 9223372036854775807 := by
  simpa [Lit.wf, IntKind.min, IntKind.max, IntKind.signed, IntKind.bits] using h
theorem gWd : Tryz.prog.globalNamed "isthmus/lex.words" = some 1 := by kernel_rfl
theorem gWdType : (Tryz.prog.globals[1]?).map (·.type) = some 137 := by kernel_rfl
theorem cellsWd : Tryz.prog.cellsOf 137 = 27 := by kernel_rfl
theorem cellsStr : Tryz.prog.cellsOf 9 = 1 := by kernel_rfl
/-- The words as the row lists them. -/
def wordsD : List (DataW Unit) := (List.range 27).map fun j => .lit (.string (wd j).data.toList)
theorem wordsD_eq : (Rows.laid_isthmus_lex_words : DataW Unit) = .agg wordsD := by rfl
theorem wordsA_list : wordsA.toList = (List.range 27).map fun j => Value.string (wd j) := by rfl
theorem words_of_cells {W : World} {fuel : Nat} {cs : List Value} {p : List MemPlace} (h : DataW.trod (fun _ => ()) Tryz.prog W 0 (fun _ => true) false fuel 137 cs = some (.agg wordsD, p)) : cs = wordsA.toList := by
  obtain ⟨xs, m, _, hx, hl, hlen, hf⟩ := DataW.trod_array Tryz.underlying137 h
  rw [cellsWd] at hl
  simp only [cellsStr, Nat.mul_one] at hf
  simp only [Prod.mk.injEq, DataW.agg.injEq] at hx
  rw [wordsA_list]
  apply List.ext_getElem?
  intro i
  by_cases hi : i < 27
  · have hfi := hf i hi
    have hxi : xs[i]? = some xs[i] := List.getElem?_eq_getElem (by omega)
    rw [hxi] at hfi
    obtain ⟨s, h1, h2⟩ := DataW.trod_string Tryz.underlying9 hfi
    have hc : cs[i]? = some (.string s) := by
      have := congrArg (·[0]?) h1
      simpa [List.getElem?_take, List.getElem?_drop] using this
    have hd : (xs.map (·.1))[i]? = some (.lit (.string s.data.toList)) := by rw [List.getElem?_map, hxi, h2.1]; rfl
    rw [← hx.1] at hd
    unfold wordsD at hd
    rw [List.getElem?_map, List.getElem?_range hi] at hd
    simp only [Option.map_some, Option.some.injEq, DataW.lit.injEq, Lit.string.injEq] at hd
    have hs := bytes_eq.1 hd
    rw [hc, List.getElem?_map, List.getElem?_range hi, ← hs]
    rfl
  · rw [List.getElem?_eq_none (by omega), List.getElem?_eq_none (by simp; omega)]
theorem wd_of_laid {W : World} {r : List (String × DataW Unit)} (h : laidMet Tryz.prog (("isthmus/lex.words", Rows.laid_isthmus_lex_words) :: r) W) : Wd W := by
  rw [wordsD_eq] at h
  obtain ⟨ps, ⟨g', t', cs, fuel, p, q, hg', ht', hvar, hd, _, _⟩, _⟩ := h
  obtain rfl := Option.some.inj (gWd.symm.trans hg')
  obtain rfl := Option.some.inj (gWdType.symm.trans ht')
  have hcs := words_of_cells hd
  have hcs' : cs = wordsA := Array.toList_inj.1 hcs
  subst hcs'
  simp only [World.var?, gWd, Option.bind_some] at hvar
  split at hvar
  · rename_i c t fr hh
    cases hvar
    exact ⟨t, fr, hh⟩
  · cases hvar
/-- What a variable's block is laid with. -/
def layCells (cs : Array Value) : Obj → Obj
  | .cells _ t frozen => .cells cs t frozen
  | o => o
def litCells : DataW Unit → List Value
  | .agg l => l.map fun d => match d with | .lit (.int k z) => Value.int k z | _ => .nilIface
  | _ => []
abbrev synS : ByteArray := ⟨#[105, 110, 118, 97, 108, 105, 100, 32, 115, 121, 110, 116, 97, 120]⟩
abbrev rngS : ByteArray := ⟨#[118, 97, 108, 117, 101, 32, 111, 117, 116, 32, 111, 102, 32, 114, 97, 110, 103, 101]⟩
def lowB (P : Program) : Nat := (World.holding P default ⟨#[], #[], []⟩).heap.size
/-- A world for the witness: the settled one, the variables holding what their initialisers lay. -/
def laidWorld (P : Program) (os : Os) : World :=
  let w0 := World.holding P os ⟨#[.cells #[.string synS] 173, .cells #[.string rngS] 173], #[], []⟩
  { w0 with heap := (((((w0.heap.modify 7 (layCells (litCells Rows.laid_math_bits_deBruijn32tab).toArray)).modify 8 (layCells (litCells Rows.laid_math_bits_deBruijn64tab).toArray)).modify 6 (layCells (litCells Rows.laid_internal_strconv_uint64pow10).toArray)).modify 1 (layCells wordsA)).modify 4 (layCells #[.iface 171 (.pointer (some ⟨lowB P, 0, none⟩))])).modify 5 (layCells #[.iface 171 (.pointer (some ⟨lowB P + 1, 0, none⟩))]) }
end Go.Proofs.YtojleoionpnjpaaGreatDoor
