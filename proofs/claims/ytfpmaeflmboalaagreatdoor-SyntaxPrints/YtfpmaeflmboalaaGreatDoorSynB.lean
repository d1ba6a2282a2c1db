/- The reader goes over tokens. -/
import Derived.Test.YtfpmaeflmboalaaGreatDoorSynT
import Derived.WalkLawsBesides
import Derived.Deep.RegionHeld3
import Derived.Deep.CutBlock
import Derived.Deep.DeepCutAuto
namespace Go.Proofs.YtfpmaeflmboalaaGreatDoor
open Go.ChangeShapes Go.WideShapes Go.ChangeAt Go.RowKit
set_option linter.unusedVariables false

theorem RdS.next {w : World} {rb o q : Nat} {x : Tk} {r : List Tk} (h : RdS w rb o q (x :: r)) : ∃ g cap len i, g < w.heap.size ∧ g < rb ∧ i < len ∧ len ≤ 3000 ∧ len ≤ cap ∧ cap ≤ maxLen ∧ w.cell? ⟨rb, 0, none⟩ = some (.slice (some ⟨g, 0, none⟩) len cap) ∧ w.cell? ⟨rb, 1, none⟩ = some (.int .i64 ((i : Nat) : Int)) ∧ w.cell? ⟨rb, 2, none⟩ = some (.int .i64 (o : Nat)) ∧ w.cell? ⟨rb, 3, none⟩ = some (.int .i64 (q : Nat)) ∧ w.cell? ⟨g, i * 4, none⟩ = some (.int .i64 (x.k : Nat)) ∧ w.cell? ⟨g, i * 4 + 1, none⟩ = some (.int .i64 x.n) ∧ w.cell? ⟨g, i * 4 + 2, none⟩ = some (stv x.t) ∧ w.cell? ⟨g, i * 4 + 3, none⟩ = some (.int .i64 (x.a : Nat)) ∧ (∀ j, w.frozen? ⟨rb, j, none⟩ = false) ∧ RdS (w.setCell ⟨rb, 1, none⟩ (.int .i64 ((i : Int) + 1))) rb o q r := by
  have hlt := h.lt
  obtain ⟨g, cap, all, i, h1, h2, h4, h5, h6, h7, h8, h9⟩ := h
  have hi : i < all.length := by
    by_cases hi : i < all.length
    · exact hi
    · rw [List.drop_eq_nil_of_le (by omega)] at h5; cases h5
  have hx : all[i]? = some x := by
    have := congrArg List.head? h5
    simpa [List.head?_drop] using this
  obtain ⟨t0, t1, t2, t3⟩ := tkcells_at all i x hx
  refine ⟨g, cap, all.length, i, (by omega), (by omega), hi, h7, h8, h9, ?_, ?_, ?_, ?_, h4 _ _ t0, h4 _ _ t1, h4 _ _ t2, h4 _ _ t3, fun j => frozen_of_row w rb j _ _ h1, ?_⟩
  · simp [cell_of_row w rb _ _ _ (0, 0) h1]
  · simp [cell_of_row w rb _ _ _ (0, 0) h1]
  · simp [cell_of_row w rb _ _ _ (0, 0) h1]
  · simp [cell_of_row w rb _ _ _ (0, 0) h1]
  · have hB := Blk.set (w := w) (o := fun _ => 0) (i := 0) (b := rb) ⟨h1, rfl⟩ 1 (.int .i64 (((i + 1 : Nat) : Nat) : Int))
    rw [show (((i + 1 : Nat) : Nat) : Int) = (i : Int) + 1 by omega] at hB
    refine ⟨g, cap, all, i + 1, by rw [show (((i + 1 : Nat) : Nat) : Int) = (i : Int) + 1 by omega]; exact hB.1, h2, fun j u hu => ?_, ?_, hi, h7, h8, h9⟩
    · exact (World.cell?_of_block (a := ⟨g, j, none⟩) (heap_setCell_other w ⟨rb, 1, none⟩ g _ (show g ≠ rb by omega))).trans (h4 j u hu)
    · have : all.drop (i + 1) = (all.drop i).drop 1 := by simp [List.drop_drop]
      rw [this, h5]
      rfl
set_option maxRecDepth 100000 in
theorem token_r {w : World} {rb o q : Nat} {x : Tk} {r : List Tk} (h : RdS w rb o q (x :: r)) :
    Calls Tryz.prog 35 #[.pointer (some ⟨rb, 0, none⟩)] w fun e w' => e = .returned (tkV x) ∧ Below w.heap.size w w' := by
  obtain ⟨g, cap, len, i, hg, hgr, hi, hl, hc, hm, c0, c1, c2, c3, t0, t1, t2, t3, hf, -⟩ := h.next
  obtain ⟨xk, xn, xt, xa⟩ := x
  simp only at t0 t1 t2 t3
  unfold tkV
  simp only
  unfold maxLen at hm
  have hrb := h.lt
  have HC : Hid (∀ wx, Below w.heap.size w wx → wx.cell? ⟨rb, 0, none⟩ = some (.slice (some ⟨g, 0, none⟩) len cap) ∧ wx.cell? ⟨rb, 1, none⟩ = some (.int .i64 ((i : Nat) : Int)) ∧ wx.cell? ⟨g, i * 4, none⟩ = some (.int .i64 (xk : Nat)) ∧ wx.cell? ⟨g, i * 4 + 1, none⟩ = some (.int .i64 xn) ∧ wx.cell? ⟨g, i * 4 + 2, none⟩ = some (stv xt) ∧ wx.cell? ⟨g, i * 4 + 3, none⟩ = some (.int .i64 (xa : Nat))) := fun wx b => ⟨(b.cell (p := ⟨rb, 0, none⟩) hrb).trans c0, (b.cell (p := ⟨rb, 1, none⟩) hrb).trans c1, (b.cell (p := ⟨g, i * 4, none⟩) hg).trans t0, (b.cell (p := ⟨g, i * 4 + 1, none⟩) hg).trans t1, (b.cell (p := ⟨g, i * 4 + 2, none⟩) hg).trans t2, (b.cell (p := ⟨g, i * 4 + 3, none⟩) hg).trans t3⟩
  have bz : Below w.heap.size w (w.alloc (.cells #[.int .i64 0, .int .i64 0, .string ⟨#[]⟩, .int .i64 0] 44)).drew := ((Below.refl _ w).alloc (Nat.le_refl _) _).drew
  have bt : Below w.heap.size w (w.alloc (.cells #[.int .i64 (xk : Nat), .int .i64 xn, stv xt, .int .i64 (xa : Nat)] 44)) := (Below.refl _ w).alloc (Nat.le_refl _) _
  clear h c0 c1 c2 c3 t0 t1 t2 t3 hf
  go_enter Tryz.func35, Tryz.ntmps35
  go_wp2_with fail
  go_region_held3 (fun wx => wx.cell? ⟨rb, 0, none⟩ = some (.slice (some ⟨g, 0, none⟩) len cap) ∧ wx.cell? ⟨rb, 1, none⟩ = some (.int .i64 ((i : Nat) : Int)) ∧ wx.cell? ⟨g, i * 4, none⟩ = some (.int .i64 (xk : Nat)) ∧ wx.cell? ⟨g, i * 4 + 1, none⟩ = some (.int .i64 xn) ∧ wx.cell? ⟨g, i * 4 + 2, none⟩ = some (stv xt) ∧ wx.cell? ⟨g, i * 4 + 3, none⟩ = some (.int .i64 (xa : Nat))) (first | (with_reducible exact HC.out _ bz) | (with_reducible exact HC.out _ bt) | (with_reducible exact HC.out _ bt.drew)) (fail)
  go_wp2
  exact bodyPost_ret (v := .agg #[.int .i64 (xk : Nat), .int .i64 xn, stv xt, .int .i64 (xa : Nat)]) (by simp [results, Tryz.results35, go_sem]) rfl ⟨rfl, bt.drew⟩
theorem tk_f0 (k n : Int) (t : ByteArray) (a : Int) (w : World) : (Instr.field 44 (.agg #[.int .i64 k, .int .i64 n, .string t, .int .i64 a]) 0).run Tryz.prog w = .ok (.int .i64 k) w := by kernel_rfl
theorem tk_f1 (k n : Int) (t : ByteArray) (a : Int) (w : World) : (Instr.field 44 (.agg #[.int .i64 k, .int .i64 n, .string t, .int .i64 a]) 1).run Tryz.prog w = .ok (.int .i64 n) w := by kernel_rfl
theorem tk_f2 (k n : Int) (t : ByteArray) (a : Int) (w : World) : (Instr.field 44 (.agg #[.int .i64 k, .int .i64 n, .string t, .int .i64 a]) 2).run Tryz.prog w = .ok (.string t) w := by kernel_rfl
theorem tk_f3 (k n : Int) (t : ByteArray) (a : Int) (w : World) : (Instr.field 44 (.agg #[.int .i64 k, .int .i64 n, .string t, .int .i64 a]) 3).run Tryz.prog w = .ok (.int .i64 a) w := by kernel_rfl
theorem tkF {x : Tk} : tkV x = .agg #[.int .i64 (x.k : Nat), .int .i64 x.n, stv x.t, .int .i64 (x.a : Nat)] := rfl
set_option maxRecDepth 100000 in
theorem refused_r {w : World} {rb o q : Nat} {x : Tk} {r : List Tk} (er : Nat) (h : RdS w rb o q (x :: r)) :
    Calls Tryz.prog 36 #[.pointer (some ⟨rb, 0, none⟩), .int .i64 (er : Nat)] w fun e w' => e = .returned (.agg #[.int .i64 (er : Nat), .int .i64 (x.a : Nat)]) ∧ Below w.heap.size w w' := by
  have h1 := h.below ((Below.refl _ w).alloc (Nat.le_refl _) (.cells #[.int .i64 0, .int .i64 0] 72))
  have c := token_r h1
  unfold tkV at c
  have B0 : Below w.heap.size w (w.alloc (.cells #[.int .i64 0, .int .i64 0] 72)) := (Below.refl _ w).alloc (Nat.le_refl _) _
  have hb : (w.alloc (.cells #[.int .i64 0, .int .i64 0] 72)).heap[w.heap.size]? = some (.cells #[.int .i64 0, .int .i64 0] 72 (0, 0)) := heap_alloc_new w _
  have hs : w.heap.size < (w.alloc (.cells #[.int .i64 0, .int .i64 0] 72)).heap.size := by simp
  clear h h1
  go_enter Tryz.func36, Tryz.ntmps36
  go_wp2_with fail
  refine c.mono ?_
  rintro e w2 ⟨rfl, b⟩
  have hb2 := (b.block _ hs).trans hb
  have c0 := cell_of_row w2 w.heap.size 0 _ _ (0, 0) hb2
  have c1 := cell_of_row w2 w.heap.size 1 _ _ (0, 0) hb2
  have fz := fun j => frozen_of_row w2 w.heap.size j _ _ hb2
  have BB : Below w.heap.size w w2 := B0.trans (b.mono (Nat.le_of_lt hs))
  have E := (BB.setCell (p := ⟨w.heap.size, 0, none⟩) (Nat.le_refl _) (.int .i64 (er : Nat))).setCell (p := ⟨w.heap.size, 1, none⟩) (Nat.le_refl _) (.int .i64 (x.a : Nat))
  have f3 := tk_f3
  simp only [List.getElem?_toArray, List.getElem?_cons_zero, List.getElem?_cons_succ] at c0 c1
  clear c b hb hs B0 BB hb2
  go_wp2
  exact bodyPost_ret (v := .agg #[.int .i64 (er : Nat), .int .i64 (x.a : Nat)]) (by simp [results, Tryz.results36, go_sem, c0, c1]) rfl ⟨rfl, E⟩
set_option maxRecDepth 100000 in
theorem has_r {w : World} {rb o q : Nat} {x : Tk} {r : List Tk} (s : List UInt8) (h : RdS w rb o q (x :: r)) :
    Calls Tryz.prog 108 #[.pointer (some ⟨rb, 0, none⟩), stv s] w fun e w' => e = .returned (.bool (x.t == s)) ∧ Below w.heap.size w w' := by
  have c := token_r h
  unfold tkV at c
  have f2 := tk_f2
  clear h
  go_enter Tryz.func108, Tryz.ntmps108
  go_wp2_with fail
  refine c.mono ?_
  rintro e w2 ⟨rfl, b⟩
  clear c
  go_wp2
  go_ret
  exact ⟨rfl, b⟩
/-- What a call that goes over a token answers and leaves. -/
def PostN (rb o q : Nat) (w : World) (res : Rs Nat) (e : Ending) (w' : World) : Prop :=
  match res with
  | ⟨none⟩ => False
  | ⟨some (.inl (er, a))⟩ => e = RefV er a ∧ Keep rb w w'
  | ⟨some (.inr (a, ts))⟩ => e = .returned (.int .i64 (a : Nat)) ∧ RdS w' rb o q ts ∧ Keep rb w w'
def PostK (rb o q : Nat) (w : World) (res : Rs Tk) (e : Ending) (w' : World) : Prop :=
  match res with
  | ⟨none⟩ => False
  | ⟨some (.inl (er, a))⟩ => e = RefV er a ∧ Keep rb w w'
  | ⟨some (.inr (x, ts))⟩ => e = .returned (tkV x) ∧ RdS w' rb o q ts ∧ Keep rb w w'
end Go.Proofs.YtfpmaeflmboalaaGreatDoor
namespace Go.Proofs.YtfpmaeflmboalaaGreatDoor
open Go.ChangeShapes Go.WideShapes Go.ChangeAt Go.RowKit
set_option linter.unusedVariables false

theorem Below.keep {rb : Nat} {w w' : World} (h : Below w.heap.size w w') : Keep rb w w' := Keep.ofBelow h
/-- Four cells are written. -/
theorem set4k {w : World} {b : Nat} {a0 a1 a2 a3 b0 b1 b2 b3 : Value} {t : TypeId} (h : w.heap[b]? = some (.cells #[a0, a1, a2, a3] t (0, 0))) : ((((w.setCell ⟨b, 0, none⟩ b0).setCell ⟨b, 1, none⟩ b1).setCell ⟨b, 2, none⟩ b2).setCell ⟨b, 3, none⟩ b3).heap[b]? = some (.cells #[b0, b1, b2, b3] t (0, 0)) := by
  have h0 : Blk w (fun _ => 0) 0 b (.cells #[a0, a1, a2, a3] t (0, 0)) := ⟨h, rfl⟩
  exact ((((h0.set 0 b0).set 1 b1).set 2 b2).set 3 b3).1
set_option maxRecDepth 100000 in
theorem passKind_r {w : World} {rb o q : Nat} {ts : List Tk} (k : Nat) (h : RdS w rb o q ts) (hn : passK k ts ≠ .out) :
    Calls Tryz.prog 111 #[.pointer (some ⟨rb, 0, none⟩), .int .i64 (k : Nat)] w (PostK rb o q w (passK k ts)) := by
  cases ts with
  | nil => exact absurd rfl hn
  | cons x r =>
    have B0 : Below w.heap.size w (w.alloc (.cells #[.int .i64 0, .int .i64 0, .string ⟨#[]⟩, .int .i64 0] 44)) := (Below.refl _ w).alloc (Nat.le_refl _) _
    have h1 := h.below B0
    have c := token_r h1
    unfold tkV at c
    have hb : (w.alloc (.cells #[.int .i64 0, .int .i64 0, .string ⟨#[]⟩, .int .i64 0] 44)).heap[w.heap.size]? = some (.cells #[.int .i64 0, .int .i64 0, .string ⟨#[]⟩, .int .i64 0] 44 (0, 0)) := heap_alloc_new w _
    have hs : w.heap.size < (w.alloc (.cells #[.int .i64 0, .int .i64 0, .string ⟨#[]⟩, .int .i64 0] 44)).heap.size := by simp
    have hrb := h.lt
    by_cases hk : x.k = k
    · have e1 : passK k (x :: r) = .ok x r := by simp [passK, hk]
      rw [e1]
      show Calls _ _ _ _ (fun e w' => e = .returned (tkV x) ∧ RdS w' rb o q r ∧ Keep rb w w')
      subst hk
      clear hn e1 h
      go_enter Tryz.func111, Tryz.ntmps111
      go_wp2_with fail
      refine c.mono ?_
      rintro e w2 ⟨rfl, b⟩
      have h2 := (h1.below b).below ((Below.refl _ w2).alloc (Nat.le_refl _) (.cells #[.int .i64 (x.k : Nat), .int .i64 x.n, stv x.t, .int .i64 (x.a : Nat)] 44))
      obtain ⟨g, cap, len, i, hg, hgr, hi, hl, hcc, hm, c0, c1, c2, c3, t0, t1, t2, t3, hf, h3⟩ := h2.next
      have hi' : i ≤ 3000 := by omega
      have hb2 : w2.heap[w.heap.size]? = _ := (b.block _ hs).trans hb
      have hlt2 : w.heap.size < w2.heap.size := lt_of_block hb2
      have hb3 : (w2.alloc (.cells #[.int .i64 (x.k : Nat), .int .i64 x.n, stv x.t, .int .i64 (x.a : Nat)] 44)).heap[w.heap.size]? = some (.cells #[.int .i64 0, .int .i64 0, .string ⟨#[]⟩, .int .i64 0] 44 (0, 0)) := (Below.heap_alloc w2 _ _ hlt2).trans hb2
      have hx3 : (w2.alloc (.cells #[.int .i64 (x.k : Nat), .int .i64 x.n, stv x.t, .int .i64 (x.a : Nat)] 44)).heap[w2.heap.size]? = some (.cells #[.int .i64 (x.k : Nat), .int .i64 x.n, stv x.t, .int .i64 (x.a : Nat)] 44 (0, 0)) := heap_alloc_new w2 _
      have K3 : Keep rb w (w2.alloc (.cells #[.int .i64 (x.k : Nat), .int .i64 x.n, stv x.t, .int .i64 (x.a : Nat)] 44)) := ((Keep.ofBelow B0).trans (Keep.ofBelow b)).alloc _
      clear t0 t1 t2 t3 hi hl hcc hm hg hgr c0 c2 c3 h2 h1 c hb2 B0 b hb hs
      go_upto_region 4 with fail
      generalize w2.alloc (.cells #[.int .i64 (x.k : Nat), .int .i64 x.n, stv x.t, .int .i64 (x.a : Nat)] 44) = w3 at *
      generalize w2.heap.size = b5 at *
      have n1 : b5 ≠ rb := by omega
      have n2 : w.heap.size ≠ rb := by omega
      have K4 := K3.set ⟨rb, 1, none⟩ (.int .i64 ((i : Int) + 1)) (.inr rfl)
      have hx4 := (heap_setCell_other w3 ⟨rb, 1, none⟩ b5 (.int .i64 ((i : Int) + 1)) n1).trans hx3
      have hb4 := (heap_setCell_other w3 ⟨rb, 1, none⟩ w.heap.size (.int .i64 ((i : Int) + 1)) n2).trans hb3
      go_upto_region 5 with fail
      generalize w3.setCell ⟨rb, 1, none⟩ (.int .i64 ((i : Int) + 1)) = w4 at *
      obtain ⟨y0, y1, y2, y3, yf⟩ := Blk.cells4 (o := fun _ => 0) (i := 0) ⟨hx4, rfl⟩
      obtain ⟨z0, z1, z2, z3, zf⟩ := Blk.cells4 (o := fun _ => 0) (i := 0) ⟨hb4, rfl⟩
      have R5 := (((h3.set ⟨w.heap.size, 0, none⟩ (.int .i64 (x.k : Nat)) hrb).set ⟨w.heap.size, 1, none⟩ (.int .i64 x.n) hrb).set ⟨w.heap.size, 2, none⟩ (stv x.t) hrb).set ⟨w.heap.size, 3, none⟩ (.int .i64 (x.a : Nat)) hrb
      have K5 := (((K4.set ⟨w.heap.size, 0, none⟩ (.int .i64 (x.k : Nat)) (.inl (Nat.le_refl _))).set ⟨w.heap.size, 1, none⟩ (.int .i64 x.n) (.inl (Nat.le_refl _))).set ⟨w.heap.size, 2, none⟩ (stv x.t) (.inl (Nat.le_refl _))).set ⟨w.heap.size, 3, none⟩ (.int .i64 (x.a : Nat)) (.inl (Nat.le_refl _))
      have hz5 := set4k (b0 := .int .i64 (x.k : Nat)) (b1 := .int .i64 x.n) (b2 := stv x.t) (b3 := .int .i64 (x.a : Nat)) hb4
      clear hx4 hb4 K4 h3 hb3 hx3 K3 c1 hf
      obtain ⟨u0, u1, u2, u3, -⟩ := Blk.cells4 (o := fun _ => 0) (i := 0) ⟨hz5, rfl⟩
      go_wp2
      exact bodyPost_ret (v := tkV x) (by simp [results, Tryz.results111, go_sem, u0, u1, u2, u3, tkV]) rfl ⟨rfl, R5, K5⟩
    · have e1 : passK k (x :: r) = .bad 120 x.a := by simp [passK, hk]
      rw [e1]
      show Calls _ _ _ _ (fun e w' => e = RefV 120 x.a ∧ Keep rb w w')
      have hk2 : ¬ (x.k : Int) = (k : Int) := by omega
      have hk3 : ((x.k : Int) == (k : Int)) = false := by rw [beq_eq_false_iff_ne]; exact hk2
      clear hn e1 h hb hs
      go_enter Tryz.func111, Tryz.ntmps111
      go_wp2_with fail
      refine c.mono ?_
      rintro e w2 ⟨rfl, b⟩
      have h2 := (h1.below b).alloc (.cells #[.int .i64 (x.k : Nat), .int .i64 x.n, stv x.t, .int .i64 (x.a : Nat)] 44)
      have c2 := refused_r 120 h2
      have K3 : Keep rb w (w2.alloc (.cells #[.int .i64 (x.k : Nat), .int .i64 x.n, stv x.t, .int .i64 (x.a : Nat)] 44)) := ((Keep.ofBelow B0).trans (Keep.ofBelow b)).alloc _
      clear h1 h2 c B0 b
      go_wp2_with fail
      refine c2.mono ?_
      rintro e w3 ⟨rfl, b3⟩
      have K4 := K3.trans (Keep.ofBelow b3)
      clear K3 c2 b3
      go_wp2
      exact ⟨rfl, rfl, K4⟩
set_option maxRecDepth 100000 in
theorem pass_r {w : World} {rb o q : Nat} {ts : List Tk} (s : List UInt8) (h : RdS w rb o q ts) (hn : passT s ts ≠ .out) :
    Calls Tryz.prog 112 #[.pointer (some ⟨rb, 0, none⟩), stv s] w (PostN rb o q w (passT s ts)) := by
  cases ts with
  | nil => exact absurd rfl hn
  | cons x r =>
    have c := has_r s h
    by_cases hk : x.t = s
    · have e1 : passT s (x :: r) = .ok x.a r := by simp [passT, hk]
      rw [e1]
      show Calls _ _ _ _ (fun e w' => e = .returned (.int .i64 (x.a : Nat)) ∧ RdS w' rb o q r ∧ Keep rb w w')
      have hk2 : (x.t == s) = true := by simpa using hk
      rw [hk2] at c
      have f0 := tk_f0
      have f3 := tk_f3
      have HT : ∀ w', RdS w' rb o q (x :: r) → Calls Tryz.prog 35 #[.pointer (some ⟨rb, 0, none⟩)] w' fun e w' => e = .returned (.agg #[.int .i64 (x.k : Nat), .int .i64 x.n, stv x.t, .int .i64 (x.a : Nat)]) ∧ Below _ _ w' := fun w' h' => token_r h'
      have HK : ∀ w', RdS w' rb o q (x :: r) → Calls Tryz.prog 111 #[.pointer (some ⟨rb, 0, none⟩), .int .i64 (x.k : Nat)] w' fun e w2 => e = .returned (.agg #[.int .i64 (x.k : Nat), .int .i64 x.n, stv x.t, .int .i64 (x.a : Nat)]) ∧ RdS w2 rb o q r ∧ Keep rb w' w2 := fun w' h' => by
        have := passKind_r x.k h' (by simp [passK])
        rw [show passK x.k (x :: r) = .ok x r by simp [passK]] at this
        exact this
      clear hn e1 hk hk2
      go_enter Tryz.func112, Tryz.ntmps112
      go_wp2_with fail
      refine c.mono ?_
      rintro e w2 ⟨rfl, b⟩
      have h2 := h.below b
      have K2 : Keep rb w w2 := Keep.ofBelow b
      clear c b h
      go_wp2_with fail
      refine (HT _ h2).mono ?_
      rintro e w3 ⟨rfl, b3⟩
      have h3 := h2.below b3
      have K3 := K2.trans (Keep.ofBelow b3)
      clear h2 K2 b3
      go_wp2_with fail
      refine (HK _ h3).mono ?_
      rintro e w4 ⟨rfl, h4, k4⟩
      have K4 := K3.trans k4
      clear h3 K3 k4 HT HK
      go_wp2
      go_ret
      exact ⟨rfl, h4, K4⟩
    · have e1 : passT s (x :: r) = .bad 120 x.a := by simp [passT, hk]
      rw [e1]
      show Calls _ _ _ _ (fun e w' => e = RefV 120 x.a ∧ Keep rb w w')
      have hk2 : (x.t == s) = false := by simpa using hk
      rw [hk2] at c
      clear hn e1 hk hk2
      go_enter Tryz.func112, Tryz.ntmps112
      go_wp2_with fail
      refine c.mono ?_
      rintro e w2 ⟨rfl, b⟩
      have c2 := refused_r 120 (h.below b)
      have K2 : Keep rb w w2 := Keep.ofBelow b
      clear c b h
      go_wp2_with fail
      refine c2.mono ?_
      rintro e w3 ⟨rfl, b3⟩
      have K4 := K2.trans (Keep.ofBelow b3)
      clear K2 c2 b3
      go_wp2
      exact ⟨rfl, rfl, K4⟩
/-- The number of openings turns. -/
theorem RdS.cells {w : World} {rb o q : Nat} {ts : List Tk} (h : RdS w rb o q ts) : w.cell? ⟨rb, 2, none⟩ = some (.int .i64 (o : Nat)) ∧ w.cell? ⟨rb, 3, none⟩ = some (.int .i64 (q : Nat)) ∧ (∀ j, w.frozen? ⟨rb, j, none⟩ = false) ∧ (∀ o' : Nat, RdS (w.setCell ⟨rb, 2, none⟩ (.int .i64 (o' : Nat))) rb o' q ts) ∧ (∀ q' : Nat, RdS (w.setCell ⟨rb, 3, none⟩ (.int .i64 (q' : Nat))) rb o q' ts) := by
  obtain ⟨g, cap, all, i, h1, h2, h4, h5⟩ := h
  refine ⟨by simp [cell_of_row w rb _ _ _ (0, 0) h1], by simp [cell_of_row w rb _ _ _ (0, 0) h1], fun j => frozen_of_row w rb j _ _ h1, fun o' => ?_, fun q' => ?_⟩
  · have hB := Blk.set (w := w) (o := fun _ => 0) (i := 0) (b := rb) ⟨h1, rfl⟩ 2 (.int .i64 (o' : Nat))
    exact ⟨g, cap, all, i, hB.1, h2, fun j u hu => (World.cell?_of_block (a := ⟨g, j, none⟩) (heap_setCell_other w ⟨rb, 2, none⟩ g _ (show g ≠ rb by omega))).trans (h4 j u hu), h5⟩
  · have hB := Blk.set (w := w) (o := fun _ => 0) (i := 0) (b := rb) ⟨h1, rfl⟩ 3 (.int .i64 (q' : Nat))
    exact ⟨g, cap, all, i, hB.1, h2, fun j u hu => (World.cell?_of_block (a := ⟨g, j, none⟩) (heap_setCell_other w ⟨rb, 3, none⟩ g _ (show g ≠ rb by omega))).trans (h4 j u hu), h5⟩
set_option maxRecDepth 100000 in
theorem leave_r {w : World} {rb o q : Nat} {ts : List Tk} (h : RdS w rb (o + 1) q ts) (ho : o ≤ 64) :
    Calls Tryz.prog 110 #[.pointer (some ⟨rb, 0, none⟩)] w fun e w' => e = .returned (.tuple #[]) ∧ RdS w' rb o q ts ∧ Keep rb w w' := by
  obtain ⟨c2, c3, hf, hs, -⟩ := h.cells
  have h2 := hs o
  have K := (Keep.refl rb w).set ⟨rb, 2, none⟩ (.int .i64 (o : Nat)) (.inr rfl)
  have e1 : ((o + 1 : Nat) : Int) = (o : Int) + 1 := by omega
  rw [e1] at c2
  clear h hs
  go_enter Tryz.func110, Tryz.ntmps110
  go_wp2
  go_end0
  exact ⟨rfl, h2, K⟩
set_option maxRecDepth 100000 in
theorem enter_r {w : World} {rb o q : Nat} {ts : List Tk} (s : List UInt8) (h : RdS w rb o q ts) (ho : o ≤ 64) (hn : enterT s o ts ≠ .out) :
    Calls Tryz.prog 109 #[.pointer (some ⟨rb, 0, none⟩), stv s] w (PostN rb (o + 1) q w (enterT s o ts)) := by
  cases ts with
  | nil => exact absurd rfl hn
  | cons x r =>
    have c := has_r s h
    by_cases hk : x.t = s
    · have hk2 : (x.t == s) = true := by simpa using hk
      rw [hk2] at c
      by_cases h64 : o = 64
      · have e1 : enterT s o (x :: r) = .bad 121 x.a := by simp [enterT, hk, h64]
        rw [e1]
        show Calls _ _ _ _ (fun e w' => e = RefV 121 x.a ∧ Keep rb w w')
        clear hn e1 hk hk2
        subst h64
        go_enter Tryz.func109, Tryz.ntmps109
        go_wp2_with fail
        refine c.mono ?_
        rintro e w2 ⟨rfl, b⟩
        have h2 := h.below b
        have c2 := refused_r 121 h2
        obtain ⟨d2, d3, -⟩ := h2.cells
        have K2 : Keep rb w w2 := Keep.ofBelow b
        clear c b h h2
        go_wp2_with fail
        refine c2.mono ?_
        rintro e w3 ⟨rfl, b3⟩
        have K4 := K2.trans (Keep.ofBelow b3)
        clear K2 c2 b3
        go_wp2
        exact ⟨rfl, rfl, K4⟩
      · have e1 : enterT s o (x :: r) = .ok x.a r := by simp [enterT, hk, h64]
        rw [e1]
        show Calls _ _ _ _ (fun e w' => e = .returned (.int .i64 (x.a : Nat)) ∧ RdS w' rb (o + 1) q r ∧ Keep rb w w')
        have h642 : ((o : Int) == 64) = false := by
          rw [beq_eq_false_iff_ne]
          omega
        have HP : ∀ w', RdS w' rb (o + 1) q (x :: r) → Calls Tryz.prog 112 #[.pointer (some ⟨rb, 0, none⟩), stv s] w' fun e w2 => e = .returned (.int .i64 (x.a : Nat)) ∧ RdS w2 rb (o + 1) q r ∧ Keep rb w' w2 := fun w' h' => by
          have := pass_r s h' (by simp [passT, hk])
          rw [show passT s (x :: r) = .ok x.a r by simp [passT, hk]] at this
          exact this
        clear hn e1 hk hk2
        go_enter Tryz.func109, Tryz.ntmps109
        go_wp2_with fail
        refine c.mono ?_
        rintro e w2 ⟨rfl, b⟩
        obtain ⟨d2, d3, df, hs, -⟩ := (h.below b).cells
        have h3 := hs (o + 1)
        have e2 : ((o + 1 : Nat) : Int) = (o : Int) + 1 := by omega
        rw [e2] at h3
        have K3 := (Keep.ofBelow (rb := rb) b).set ⟨rb, 2, none⟩ (.int .i64 ((o : Int) + 1)) (.inr rfl)
        have c2 := HP _ h3
        clear c b h hs h3 HP
        go_wp2_with fail
        refine c2.mono ?_
        rintro e w4 ⟨rfl, h4, k4⟩
        have K4 := K3.trans k4
        clear K3 c2 k4
        go_wp2
        go_ret
        exact ⟨rfl, h4, K4⟩
    · have e1 : enterT s o (x :: r) = .bad 120 x.a := by simp [enterT, hk]
      rw [e1]
      show Calls _ _ _ _ (fun e w' => e = RefV 120 x.a ∧ Keep rb w w')
      have hk2 : (x.t == s) = false := by simpa using hk
      rw [hk2] at c
      have HP : ∀ w', RdS w' rb (o + 1) q (x :: r) → Calls Tryz.prog 112 #[.pointer (some ⟨rb, 0, none⟩), stv s] w' fun e w2 => e = RefV 120 x.a ∧ Keep rb w' w2 := fun w' h' => by
        have := pass_r s h' (by simp [passT, hk])
        rw [show passT s (x :: r) = .bad 120 x.a by simp [passT, hk]] at this
        exact this
      clear hn e1 hk hk2
      go_enter Tryz.func109, Tryz.ntmps109
      go_wp2_with fail
      refine c.mono ?_
      rintro e w2 ⟨rfl, b⟩
      obtain ⟨d2, d3, df, hs, -⟩ := (h.below b).cells
      have h3 := hs (o + 1)
      have e2 : ((o + 1 : Nat) : Int) = (o : Int) + 1 := by omega
      rw [e2] at h3
      have K3 := (Keep.ofBelow (rb := rb) b).set ⟨rb, 2, none⟩ (.int .i64 ((o : Int) + 1)) (.inr rfl)
      have c2 := HP _ h3
      clear c b h hs h3 HP
      go_wp2_with fail
      refine c2.mono ?_
      rintro e w4 ⟨rfl, k4⟩
      have K4 := K3.trans k4
      clear K3 c2 k4
      go_wp2
      exact ⟨rfl, rfl, K4⟩
end Go.Proofs.YtfpmaeflmboalaaGreatDoor
