/- The walk of the law SplayLong. -/
import Derived.Test.YthnocaiehhcdeaaRowF
import Derived.Test.YthnocaiehhcdeaaStands
import Derived.Test.YthnocaiehhcdeaaLongMath
import Derived.Test.YthnocaiehhcdeaaMake2
import Derived.Test.YthnocaiehhcdeaaFree
namespace Go.Proofs.Ythnocaiehhcdeaa
open Go.ChangeShapes Go.WideShapes Go.ChangeAt Go.RowKit
set_option linter.unusedVariables false

theorem Row.store3 {w : World} {o : Nat → Nat} {i : Nat} {e : TypeId} {size g n cap : Nat} {xs : List Value} (h : Row w o i e size (.slice (some ⟨g, 0, none⟩) n cap) n xs) (j : Nat) (u v x : Value) :
    Row (((w.setCell ⟨g, j, none⟩ u).setCell ⟨g, j + 1, none⟩ v).setCell ⟨g, j + 2, none⟩ x) o i e size (.slice (some ⟨g, 0, none⟩) n cap) n (((xs.set j u).set (j + 1) v).set (j + 2) x) := ((h.store j u).store (j + 1) v).store (j + 2) x
/-- The state of the first loop. -/
def LongA (w w1 : World) (g k : Nat) (wr : World) : Prop := ∃ o', Row wr o' 2001 36 3 (.slice (some ⟨g, 0, none⟩) 1024 1024) 1024 (itsL (longL k)) ∧ Step (fun k => k = 2001) w1 o0 wr o'
/-- The state of the second loop. -/
def LongB (w : World) (p : Nat) (xs : List Nat) (v : Value) (it : Nat → It) (S : Nat → List Nat) (wr : World) : Prop := ∃ o', Fo wr o' 1 p 1024 1024 [] it S ∧ Row wr o' 2002 3 1 v 1024 (intsL xs) ∧ Step Pos w o0 wr o'

theorem row_same {w : World} {o : Nat → Nat} {i g n cap : Nat} {ys : List Nat} (h : Row w o i 3 1 (.slice (some ⟨g, 0, none⟩) n cap) n (intsL ys)) (hn : ys.length = n) (h0 : 0 < n) : o g = i ∧ g < w.heap.size ∧ n ≤ cap ∧ cap ≤ maxLen ∧ ∀ j (hj : j < ys.length), w.cell? ⟨g, j, none⟩ = some (.int .i64 (ys[j] : Nat)) := by
  obtain ⟨g', cap', hv', h1, h2, h3, h4, hcell', _⟩ := h.pos h0
  simp only [Value.slice.injEq, Option.some.injEq, Addr.mk.injEq, and_true, true_and] at hv'
  obtain ⟨rfl, rfl⟩ := hv'
  exact ⟨h1, h4, h2, h3, fun j hj => by rw [hcell' j (by omega)]; exact intsL_get ys j hj⟩

set_option maxRecDepth 100000 in
set_option maxHeartbeats 8000000 in
theorem long_walk (w : World) (ah ac : Option Addr) (lenh caph lenc capc : Nat) (z y : Nat → Int) (hah : Arg w ah lenh z) (hac : Arg w ac lenc y) (h2 : lenh ≤ 9223372036854775807) (h3 : lenc ≤ 9223372036854775807) :
    Calls Try.prog 7 #[.slice ah lenh caph, .slice ac lenc capc] w fun e w' => e = .returned (.bool true) ∧ Below w.heap.size w w' := by
  obtain ⟨ii, hii, hzi0, hzi1, hzi2⟩ := info_parts infoItem
  have npos : ¬ Pos 0 := by unfold Pos; omega
  have nF : ∀ k, 2000 ≤ k → ¬ FL 1 k := fun k hk h => by have := h.2; omega
  go_enter Try.func7, Try.ntmps7
  go_wp2_with fail
  refine (awake_any w).mono ?_
  rintro e w1 ⟨rfl, hb1⟩
  have t1 : Step Pos w o0 w1 o0 := Step.ofBelow o0 hb1
  go_wp2_with (at_make; refine wpList_make_full _ rfl _ _ 41 rfl w1.heap.size 36 ii (.agg #[.int .i64 0, .bool false, .int .i64 0]) 3 Try.underlying41 hii hzi0 hzi1 .i64 .i64 _ _ 1024 rfl rfl rfl rfl ?b2 ?b3 (Nat.le_refl _) ?_)
  case b2 => rw [hzi2]; omega
  case b3 => unfold maxLen; omega
  intro w2 hown hgr
  have s2 : Step (fun k => k = 2001) w1 o0 w2 (newLab w1 o0 2001) := ⟨hgr.os, hgr.tape, hgr.output, hgr.size, fun k hk => newLab_old hk, fun k hk _ => hgr.block k hk (by simp)⟩
  have START : LongA w w1 w1.heap.size 0 w2 := by
    refine ⟨_, ⟨?_, fun k hk => ?_⟩, s2⟩
    · have := ownsRow_base0 hown
      have e : (madeCells #[Value.int .i64 0, .bool false, .int .i64 0] 3072).toList = itsL (List.replicate 1024 ⟨0, false, 0⟩) := longL_zero 1024
      rw [e] at this
      exact this
    · simp [Value.ownBlock] at hk; subst hk; exact newLab_new (Nat.le_refl _)
  obtain ⟨g, hg⟩ : ∃ g, g = w1.heap.size := ⟨_, rfl⟩
  rw [← hg] at START ⊢
  clear hown hgr s2 hg
  go_wp2
  go_loopw [7] (fun u wr => ∃ k : Nat, k ≤ 1024 ∧ u = .int .i64 (k : Nat) ∧ LongA w w1 g k wr) (fun u _ => 1024 - (intOf u).toNat)
  case atStart => exact ⟨0, by omega, by go_num, START⟩
  case round =>
    clear START
    obtain ⟨k, hk, rfl, o3, r3, s3⟩ := hrel
    by_cases hlt : k < 1024
    · obtain ⟨g', cap', hv', hg1, hc1, hm1, hgl1, hcell1, hfr1⟩ := r3.pos (by omega)
      simp only [Value.slice.injEq, Option.some.injEq, Addr.mk.injEq, and_true, true_and] at hv'
      obtain ⟨rfl, rfl⟩ := hv'
      have hll := longL_length (k := k) (by omega)
      obtain ⟨i0, i1, i2⟩ := itsL_get (longL k) k (by omega)
      have m0 := (hcell1 (k * 3) (by omega)).trans i0
      have m1 := (hcell1 (k * 3 + 1) (by omega)).trans i1
      have m2 := (hcell1 (k * 3 + 2) (by omega)).trans i2
      obtain ⟨x, hx⟩ : ∃ x, x = (longL k)[k]'(by omega) := ⟨_, rfl⟩
      rw [← hx] at m0 m1 m2
      have R := r3.store3 (k * 3) (.int .i64 k) (.bool true) (.int .i64 0)
      rw [longL_set k hlt] at R
      have SR : Step (fun k => k = 2001) w1 o0 (((wr.setCell ⟨g, k * 3, none⟩ (.int .i64 k)).setCell ⟨g, k * 3 + 1, none⟩ (.bool true)).setCell ⟨g, k * 3 + 2, none⟩ (.int .i64 0)) o3 := ((s3.setCell ⟨g, k * 3, none⟩ _ hg1).setCell ⟨g, k * 3 + 1, none⟩ _ hg1).setCell ⟨g, k * 3 + 2, none⟩ _ hg1
      have G : LongA w w1 g (k + 1) (((wr.setCell ⟨g, k * 3, none⟩ (.int .i64 k)).setCell ⟨g, k * 3 + 1, none⟩ (.bool true)).setCell ⟨g, k * 3 + 2, none⟩ (.int .i64 0)) := ⟨o3, R, SR⟩
      clear r3 s3 R SR i0 i1 i2 hcell1 hx hll
      go_wp2
      go_roundw
      case rel => (try ((repeat apply Exists.intro); refine ⟨?_, rfl⟩)); exact ⟨k + 1, by omega, by go_num, G⟩
      case measure => simp [intOf]; omega
    · obtain rfl : k = 1024 := by omega
      rw [longL_all] at r3
      have t3 := t1.trans (s3.mono (J := Pos) fun k hk => by unfold Pos; omega)
      have H3 := hah.at0.step t3 npos
      have hil : ((List.range 1024).map longIt).length = 1024 := by simp
      have hrow := row_any wr o3 2002 2001 (.slice (some ⟨g, 0, none⟩) 1024 1024) ((List.range 1024).map longIt) ah lenh caph z (by rw [hil]; exact r3) (fun x hx => by
        obtain ⟨i, hi, rfl⟩ := List.mem_map.1 hx
        have : i < 1024 := by simpa using hi
        exact ⟨by show -1099511627776 ≤ ((i : Nat) : Int); omega, by show ((i : Nat) : Int) ≤ 1099511627776; omega, by show 0 ≤ 255; omega⟩) (by rw [hil]; exact Nat.le_refl _) H3 h2 (nF _ (by omega)) (by omega) (by omega) (nF _ (by omega))
      clear H3 r3 s3 t1 hb1
      go_wp2_with fail
      refine hrow.mono ?_
      rintro e w4 ⟨p, v4, xs, o4, it, S, rfl, F4, O4, I4, r4, s4⟩
      have t4 := t3.trans (s4.mono (J := Pos) fun k hk => by unfold Pos; rcases hk with hk | hk; have := hk.1; omega; omega)
      rw [hil] at F4 O4
      have IT : ∀ j, j < 1024 → it (j + 1) = longIt j := fun j hj => by rw [I4 j (by rw [hil]; exact hj)]; simp
      have hxl := O4.len
      rw [hxl] at r4
      obtain ⟨gx, cx, rfl, hrest⟩ := r4.pos (by omega)
      have HG : Hid (agg (xs.map it) = ⟨1024, 523776, 0, 1023, 0⟩) := long_all O4 IT
      have HO : Hid (One 1024 S xs) := O4
      have START : LongB w p xs (.slice (some ⟨gx, 0, none⟩) 1024 cx) it S w4 := ⟨o4, F4, r4, t4⟩
      clear hrow t3 F4 O4 I4 IT r4 s4 t4 hrest hil
      go_wp2
      go_loopw [10] (fun u wr => ∃ k : Nat, u = .int .i64 (k : Nat) ∧ k ≤ lenc ∧ k ≤ 30 ∧ LongB w p xs (.slice (some ⟨gx, 0, none⟩) 1024 cx) it S wr) (fun u _ => 30 - (intOf u).toNat)
      case atStart => exact ⟨0, by go_num, by omega, by omega, START⟩
      case round =>
        clear START
        obtain ⟨k, rfl, hk, hk30, o5, F5, r5, t5⟩ := hrel
        obtain ⟨hg5, hgl5, hcap5, hmx5, hcell5⟩ := row_same r5 hxl (by omega)
        unfold maxLen at hmx5
        by_cases hlt : k < lenc ∧ k < 30
        · obtain ⟨hlt1, hlt2⟩ := hlt
          obtain ⟨bc, offc, rfl, hbc, hoc, hcc, hyb1, hyb2⟩ := hac.at0.step t5 npos k hlt1
          have hpk := pick_int (y k) 1024 wr ⟨hyb1, hyb2⟩ (by omega)
          have hqb : -9223372036854775808 ≤ (y k).tdiv 1024 ∧ (y k).tdiv 1024 ≤ 9223372036854775807 := by
            by_cases h : 0 ≤ y k
            · rw [Int.tdiv_eq_ediv_of_nonneg h]; omega
            · have e : (y k).tdiv 1024 = -((-(y k)) / 1024) := by rw [← Int.tdiv_eq_ediv_of_nonneg (by omega), Int.neg_tdiv, Int.neg_neg]
              rw [e]; omega
          have hpk2 : Hid (∀ wx, Calls Try.prog 17 #[.int .i64 ((y k).tdiv 1024), .int .i64 1024] wx fun e w' => ∃ r : Nat, (r : Int) < 1024 ∧ e = .returned (.int .i64 r) ∧ w' = wx) := fun wx => pick_int _ 1024 wx hqb (by omega)
          have HCC : Hid (∀ wx ox, Step (FL 1) wr o5 wx ox → wx.cell? ⟨bc, offc + k, none⟩ = some (.int .i64 (y k))) := fun wx ox s => by
            rw [s.cell hbc (by rw [hoc]; exact fun h => absurd h.1 (by omega))]; exact hcc
          have HCX : Hid (∀ wx ox, Step (FL 1) wr o5 wx ox → ∀ j (hj : j < xs.length), wx.cell? ⟨gx, j, none⟩ = some (.int .i64 (xs[j] : Nat))) := fun wx ox s j hj => by
            rw [s.cell hgl5 (by rw [hg5]; exact nF _ (by omega))]; exact hcell5 j hj
          clear hcell5
          go_wp2_with fail
          refine hpk.mono ?_
          rintro e w6 ⟨r, hr, rfl, hw6⟩
          obtain rfl : wr = w6 := hw6.symm
          have hrx : r < xs.length := by omega
          have ecut := cut_at hrx
          have cr := HCX.out wr o5 (Step.refl _ _ _) r hrx
          have lr := HO.out.live (List.getElem_mem hrx)
          have sr := HO.out.seq _ (List.getElem_mem hrx)
          have hrk := rankInF wr o5 1 p 1024 1024 [] it S xs[r] (xs.take r) (xs.drop (r + 1)) F5 lr (by rw [sr]; exact ecut)
          rw [List.length_take, Nat.min_eq_left (by omega)] at hrk
          have HAT : Hid (∀ wx ox q (hq : q < xs.length), Fo wx ox 1 p 1024 1024 [] it S → Calls Try.prog 27 #[.pointer (some ⟨p, 0, none⟩), .int .i64 (xs[q] : Nat), .int .i64 (r : Nat)] wx fun e w' => e = .returned (.tuple #[.int .i64 (xs[r] : Nat), .int .i64 0]) ∧ ∃ o', Fo w' o' 1 p 1024 1024 [] it S ∧ Step (FL 1) wx ox w' o') := fun wx ox q hq Fx => atInF wx ox 1 p 1024 1024 [] it S _ r _ Fx (HO.out.live (List.getElem_mem hq)) (by rw [HO.out.seq _ (List.getElem_mem hq)]; exact List.getElem?_eq_getElem hrx)
          have HCR : Hid (∀ wx ox, Step (FL 1) wr o5 wx ox → wx.cell? ⟨gx, r, none⟩ = some (.int .i64 (xs[r] : Nat))) := fun wx ox s => HCX.out wx ox s r hrx
          obtain ⟨x, hx⟩ : ∃ x, x = xs[r] := ⟨_, rfl⟩
          rw [← hx] at hrk cr HAT HCR
          have HX : Hid (xs.length = 1024) := hxl
          clear hpk hx ecut lr sr hxl hrx F5
          go_wp2_with fail
          refine hrk.mono ?_
          rintro e w7 ⟨rfl, o7, F7, S7⟩
          have y1 := HCC.out _ _ S7
          clear hrk cr
          go_wp2_with fail
          refine (hpk2.out _).mono ?_
          rintro e w8 ⟨q, hq, rfl, hw8⟩
          obtain rfl : w7 = w8 := hw8.symm
          have hqx : q < xs.length := by rw [HX.out]; omega
          have y2 := HCX.out _ _ S7 q hqx
          have hat := HAT.out w7 o7 q hqx F7
          obtain ⟨xq, hxq⟩ : ∃ x, x = xs[q] := ⟨_, rfl⟩
          rw [← hxq] at y2 hat
          clear hxq hqx HAT hpk2 F7
          go_wp2_with fail
          refine hat.mono ?_
          rintro e w9 ⟨rfl, o9, F9, S9⟩
          have S9' := S7.trans S9
          have y3 := HCR.out _ _ S9'
          have G : LongB w p xs (.slice (some ⟨gx, 0, none⟩) 1024 cx) it S w9 := ⟨o9, F9, r5.step S9' (nF _ (by omega)), t5.trans (S9'.posF (by omega))⟩
          clear hat F9 S9 S7 S9' r5 t5 HCR HCX HCC y1 y2
          go_wp2
          go_roundw
          case rel => (try ((repeat apply Exists.intro); refine ⟨?_, rfl⟩)); exact ⟨k + 1, by go_num, by omega, by omega, G⟩
          case measure => simp [intOf]; omega
        · have hend : (k : Int) < (lenc : Int) → ¬ (k : Int) < 30 := by omega
          have c0 := hcell5 0 (by omega)
          have HCX : Hid (∀ wx ox, Step (FL 1) wr o5 wx ox → wx.cell? ⟨gx, 1, none⟩ = some (.int .i64 (xs[1]'(by omega) : Nat))) := fun wx ox s => by
            rw [s.cell hgl5 (by rw [hg5]; exact nF _ (by omega))]; exact hcell5 1 (by omega)
          have l0 := HO.out.live (List.getElem_mem (show 0 < xs.length by omega))
          have l1 := HO.out.live (List.getElem_mem (show 1 < xs.length by omega))
          have hsum := sumInF wr o5 1 p 1024 1024 [] it S xs[0] F5 l0
          rw [HO.out.seq _ (List.getElem_mem _), HG.out] at hsum
          unfold aggV at hsum
          have hmk : Hid (∀ wx ox, Fo wx ox 1 p 1024 1024 [] it S → Calls Try.prog 29 #[.pointer (some ⟨p, 0, none⟩), itemV ⟨0, false, 0⟩] wx fun e w' => e = .returned (.tuple #[.int .i64 0, .int .i64 30]) ∧ ∃ o', Step (fun _ => False) wx ox w' o') := fun wx ox Fx => makeFullF wx ox 1 p 1024 1024 [] it S ⟨0, false, 0⟩ Fx ⟨by decide, by decide, by decide⟩ rfl
          unfold itemV at hmk
          have hfr : Hid (∀ wx ox, Fo wx ox 1 p 1024 1024 [] it S → Calls Try.prog 30 #[.pointer (some ⟨p, 0, none⟩), .int .i64 (xs[1]'(by omega) : Nat)] wx fun e w' => e = .returned (.int .i64 32) ∧ w' = wx) := fun wx ox Fx => freeBusyF wx ox 1 p 1024 1024 [] it S _ Fx l1 (by
            rw [HO.out.seq _ (List.getElem_mem _)]; intro e; have h9 := congrArg List.length e; simp only [List.length_singleton] at h9; omega)
          obtain ⟨x0, hx0⟩ : ∃ x, x = xs[0]'(by omega) := ⟨_, rfl⟩
          obtain ⟨x1, hx1⟩ : ∃ x, x = xs[1]'(by omega) := ⟨_, rfl⟩
          rw [← hx0] at c0 hsum
          rw [← hx1] at HCX hfr
          clear hcell5 hx0 hx1 l0 l1 F5 hac hah
          have fin : True := trivial
          have hcases : (k : Int) < (lenc : Int) ∨ ¬ (k : Int) < (lenc : Int) := by omega
          rcases hcases with hl1 | hl1
          · have hl2 := hend hl1
            go_wp2_with fail
            refine hsum.mono ?_
            rintro e w6 ⟨rfl, o6, F6, S6⟩
            have n7 := newStep (fun _ => False) w6 o6 2010 (.cells #[.int .i64 1024, .int .i64 523776, .int .i64 0, .int .i64 1023, .int .i64 0] 64)
            have B7 : Blk (w6.alloc (.cells #[.int .i64 1024, .int .i64 523776, .int .i64 0, .int .i64 1023, .int .i64 0] 64)) (newLab w6 o6 2010) 2010 w6.heap.size (.cells #[.int .i64 1024, .int .i64 523776, .int .i64 0, .int .i64 1023, .int .i64 0] 64 (0, 0)) := ⟨heap_alloc_new w6 _, newLab_new (Nat.le_refl _)⟩
            have F7 := F6.quiet n7
            have S7 := S6.trans (n7.mono (J := FL 1) fun _ h => h.elim)
            clear hsum F6 S6 n7
            go_wp2_with fail
            refine (hmk.out _ _ F7).mono ?_
            rintro e w8 ⟨rfl, o8, S8⟩
            have F8 := F7.quiet S8
            have S8' := S7.trans (S8.mono (J := FL 1) fun _ h => h.elim)
            have y1 := HCX.out _ _ S8'
            obtain ⟨d0, d1, d2, d3, d4, df⟩ := (B7.step S8 id).cells5
            have t8 := (t5.trans (S8'.posF (by omega))).old
            clear hmk F7 S7 S8 B7 HCX
            go_wp2_with fail
            refine (hfr.out _ _ F8).mono ?_
            rintro e w9 ⟨rfl, rfl⟩
            clear hfr F8 S8' t5 r5
            go_wp2
            go_ret
            exact ⟨ret_bool (by simp), t8⟩
          · go_wp2_with fail
            refine hsum.mono ?_
            rintro e w6 ⟨rfl, o6, F6, S6⟩
            have n7 := newStep (fun _ => False) w6 o6 2010 (.cells #[.int .i64 1024, .int .i64 523776, .int .i64 0, .int .i64 1023, .int .i64 0] 64)
            have B7 : Blk (w6.alloc (.cells #[.int .i64 1024, .int .i64 523776, .int .i64 0, .int .i64 1023, .int .i64 0] 64)) (newLab w6 o6 2010) 2010 w6.heap.size (.cells #[.int .i64 1024, .int .i64 523776, .int .i64 0, .int .i64 1023, .int .i64 0] 64 (0, 0)) := ⟨heap_alloc_new w6 _, newLab_new (Nat.le_refl _)⟩
            have F7 := F6.quiet n7
            have S7 := S6.trans (n7.mono (J := FL 1) fun _ h => h.elim)
            clear hsum F6 S6 n7
            go_wp2_with fail
            refine (hmk.out _ _ F7).mono ?_
            rintro e w8 ⟨rfl, o8, S8⟩
            have F8 := F7.quiet S8
            have S8' := S7.trans (S8.mono (J := FL 1) fun _ h => h.elim)
            have y1 := HCX.out _ _ S8'
            obtain ⟨d0, d1, d2, d3, d4, df⟩ := (B7.step S8 id).cells5
            have t8 := (t5.trans (S8'.posF (by omega))).old
            clear hmk F7 S7 S8 B7 HCX
            go_wp2_with fail
            refine (hfr.out _ _ F8).mono ?_
            rintro e w9 ⟨rfl, rfl⟩
            clear hfr F8 S8' t5 r5
            go_wp2
            go_ret
            exact ⟨ret_bool (by simp), t8⟩

end Go.Proofs.Ythnocaiehhcdeaa
