/- The reader goes over tokens. -/
import Derived.Test.YtafnlhnenmpfoaaGreatDoorSynA
import Derived.Deep.CutBlock
import Derived.Deep.DeepCutAuto
namespace Go.Proofs.YtafnlhnenmpfoaaGreatDoor
open Go.ChangeShapes Go.WideShapes Go.ChangeAt Go.RowKit
set_option linter.unusedVariables false

theorem Below.keep {rb : Nat} {w w' : World} (h : Below w.heap.size w w') : Keep rb w w' := Keep.ofBelow h
/-- Four cells are written. -/
theorem set4k {w : World} {b : Nat} {a0 a1 a2 a3 b0 b1 b2 b3 : Value} {t : TypeId} (h : w.heap[b]? = some (.cells #[a0, a1, a2, a3] t (0, 0))) : ((((w.setCell ⟨b, 0, none⟩ b0).setCell ⟨b, 1, none⟩ b1).setCell ⟨b, 2, none⟩ b2).setCell ⟨b, 3, none⟩ b3).heap[b]? = some (.cells #[b0, b1, b2, b3] t (0, 0)) := by
  have h0 : Blk w (fun _ => 0) 0 b (.cells #[a0, a1, a2, a3] t (0, 0)) := ⟨h, rfl⟩
  exact ((((h0.set 0 b0).set 1 b1).set 2 b2).set 3 b3).1
set_option maxRecDepth 100000 in
theorem passKind_r {w : World} {rb o q : Nat} {ts : List Tk} (k : Nat) (h : RdS w rb o q ts) (hn : passK k ts ≠ .out) :
    Calls Tryz.prog 141 #[.pointer (some ⟨rb, 0, none⟩), .int .i64 (k : Nat)] w (PostK rb o q w (passK k ts)) := by
  cases ts with
  | nil => exact absurd rfl hn
  | cons x r =>
    have B0 : Below w.heap.size w (w.alloc (.cells #[.int .i64 0, .int .i64 0, .string ⟨#[]⟩, .int .i64 0] 47)) := (Below.refl _ w).alloc (Nat.le_refl _) _
    have h1 := h.below B0
    have c := token_r h1
    unfold tkV at c
    have hb : (w.alloc (.cells #[.int .i64 0, .int .i64 0, .string ⟨#[]⟩, .int .i64 0] 47)).heap[w.heap.size]? = some (.cells #[.int .i64 0, .int .i64 0, .string ⟨#[]⟩, .int .i64 0] 47 (0, 0)) := heap_alloc_new w _
    have hs : w.heap.size < (w.alloc (.cells #[.int .i64 0, .int .i64 0, .string ⟨#[]⟩, .int .i64 0] 47)).heap.size := by simp
    have hrb := h.lt
    by_cases hk : x.k = k
    · have e1 : passK k (x :: r) = .ok x r := by simp [passK, hk]
      rw [e1]
      show Calls _ _ _ _ (fun e w' => e = .returned (tkV x) ∧ RdS w' rb o q r ∧ Keep rb w w')
      subst hk
      clear hn e1 h
      go_enter Tryz.func141, Tryz.ntmps141
      go_wp2_with fail
      refine c.mono ?_
      rintro e w2 ⟨rfl, b⟩
      have h2 := (h1.below b).below ((Below.refl _ w2).alloc (Nat.le_refl _) (.cells #[.int .i64 (x.k : Nat), .int .i64 x.n, stv x.t, .int .i64 (x.a : Nat)] 47))
      obtain ⟨g, cap, len, i, hg, hgr, hi, hl, hcc, hm, c0, c1, c2, c3, t0, t1, t2, t3, hf, h3⟩ := h2.next
      have hi' : i ≤ 3000 := by omega
      have hb2 : w2.heap[w.heap.size]? = _ := (b.block _ hs).trans hb
      have hlt2 : w.heap.size < w2.heap.size := lt_of_block hb2
      have hb3 : (w2.alloc (.cells #[.int .i64 (x.k : Nat), .int .i64 x.n, stv x.t, .int .i64 (x.a : Nat)] 47)).heap[w.heap.size]? = some (.cells #[.int .i64 0, .int .i64 0, .string ⟨#[]⟩, .int .i64 0] 47 (0, 0)) := (Below.heap_alloc w2 _ _ hlt2).trans hb2
      have hx3 : (w2.alloc (.cells #[.int .i64 (x.k : Nat), .int .i64 x.n, stv x.t, .int .i64 (x.a : Nat)] 47)).heap[w2.heap.size]? = some (.cells #[.int .i64 (x.k : Nat), .int .i64 x.n, stv x.t, .int .i64 (x.a : Nat)] 47 (0, 0)) := heap_alloc_new w2 _
      have K3 : Keep rb w (w2.alloc (.cells #[.int .i64 (x.k : Nat), .int .i64 x.n, stv x.t, .int .i64 (x.a : Nat)] 47)) := ((Keep.ofBelow B0).trans (Keep.ofBelow b)).alloc _
      clear t0 t1 t2 t3 hi hl hcc hm hg hgr c0 c2 c3 h2 h1 c hb2 B0 b hb hs
      go_upto_region 4 with fail
      generalize w2.alloc (.cells #[.int .i64 (x.k : Nat), .int .i64 x.n, stv x.t, .int .i64 (x.a : Nat)] 47) = w3 at *
      generalize w2.heap.size = b5 at *
      have n1 : b5 ≠ rb := by omega
      have n2 : w.heap.size ≠ rb := by omega
      have K4 := K3.set ⟨rb, 1, none⟩ (.int .i64 ((i : Int) + 1)) (.inr rfl)
      have hx4 := (heap_setCell_other w3 ⟨rb, 1, none⟩ b5 (.int .i64 ((i : Int) + 1)) n1).trans hx3
      have hb4 := (heap_setCell_other w3 ⟨rb, 1, none⟩ w.heap.size (.int .i64 ((i : Int) + 1)) n2).trans hb3
      go_upto_region 5 with fail
      generalize w3.setCell ⟨rb, 1, none⟩ (.int .i64 ((i : Int) + 1)) = w4 at *
      obtain ⟨y0, y1, y2, y3, yf⟩ := Blk.cells4 (o := fun _ => 0) (i := 0) ⟨hx4, rfl⟩
      obtain ⟨z0, z1, z2, z3, zf⟩ := Blk.cells4 (o := fun _ => 0) (i := 0) ⟨hb4, rfl⟩
      have R5 := (((h3.set ⟨w.heap.size, 0, none⟩ (.int .i64 (x.k : Nat)) hrb).set ⟨w.heap.size, 1, none⟩ (.int .i64 x.n) hrb).set ⟨w.heap.size, 2, none⟩ (stv x.t) hrb).set ⟨w.heap.size, 3, none⟩ (.int .i64 (x.a : Nat)) hrb
      have K5 := (((K4.set ⟨w.heap.size, 0, none⟩ (.int .i64 (x.k : Nat)) (.inl (Nat.le_refl _))).set ⟨w.heap.size, 1, none⟩ (.int .i64 x.n) (.inl (Nat.le_refl _))).set ⟨w.heap.size, 2, none⟩ (stv x.t) (.inl (Nat.le_refl _))).set ⟨w.heap.size, 3, none⟩ (.int .i64 (x.a : Nat)) (.inl (Nat.le_refl _))
      have hz5 := set4k (b0 := .int .i64 (x.k : Nat)) (b1 := .int .i64 x.n) (b2 := stv x.t) (b3 := .int .i64 (x.a : Nat)) hb4
      clear hx4 hb4 K4 h3 hb3 hx3 K3 c1 hf
      obtain ⟨u0, u1, u2, u3, -⟩ := Blk.cells4 (o := fun _ => 0) (i := 0) ⟨hz5, rfl⟩
      go_wp2
      exact bodyPost_ret (v := tkV x) (by simp [results, Tryz.results141, go_sem, u0, u1, u2, u3, tkV]) rfl ⟨rfl, R5, K5⟩
    · have e1 : passK k (x :: r) = .bad 120 x.a := by simp [passK, hk]
      rw [e1]
      show Calls _ _ _ _ (fun e w' => e = RefV 120 x.a ∧ Keep rb w w')
      have hk2 : ¬ (x.k : Int) = (k : Int) := by omega
      have hk3 : ((x.k : Int) == (k : Int)) = false := by rw [beq_eq_false_iff_ne]; exact hk2
      clear hn e1 h hb hs
      go_enter Tryz.func141, Tryz.ntmps141
      go_wp2_with fail
      refine c.mono ?_
      rintro e w2 ⟨rfl, b⟩
      have h2 := (h1.below b).alloc (.cells #[.int .i64 (x.k : Nat), .int .i64 x.n, stv x.t, .int .i64 (x.a : Nat)] 47)
      have c2 := refused_r 120 h2
      have K3 : Keep rb w (w2.alloc (.cells #[.int .i64 (x.k : Nat), .int .i64 x.n, stv x.t, .int .i64 (x.a : Nat)] 47)) := ((Keep.ofBelow B0).trans (Keep.ofBelow b)).alloc _
      clear h1 h2 c B0 b
      go_wp2_with fail
      refine c2.mono ?_
      rintro e w3 ⟨rfl, b3⟩
      have K4 := K3.trans (Keep.ofBelow b3)
      clear K3 c2 b3
      go_wp2
      exact ⟨rfl, rfl, K4⟩
set_option maxRecDepth 100000 in
theorem pass_r {w : World} {rb o q : Nat} {ts : List Tk} (s : List UInt8) (h : RdS w rb o q ts) (hn : passT s ts ≠ .out) :
    Calls Tryz.prog 142 #[.pointer (some ⟨rb, 0, none⟩), stv s] w (PostN rb o q w (passT s ts)) := by
  cases ts with
  | nil => exact absurd rfl hn
  | cons x r =>
    have c := has_r s h
    by_cases hk : x.t = s
    · have e1 : passT s (x :: r) = .ok x.a r := by simp [passT, hk]
      rw [e1]
      show Calls _ _ _ _ (fun e w' => e = .returned (.int .i64 (x.a : Nat)) ∧ RdS w' rb o q r ∧ Keep rb w w')
      have hk2 : (x.t == s) = true := by simpa using hk
      rw [hk2] at c
      have f0 := tk_f0
      have f3 := tk_f3
      have HT : ∀ w', RdS w' rb o q (x :: r) → Calls Tryz.prog 43 #[.pointer (some ⟨rb, 0, none⟩)] w' fun e w' => e = .returned (.agg #[.int .i64 (x.k : Nat), .int .i64 x.n, stv x.t, .int .i64 (x.a : Nat)]) ∧ Below _ _ w' := fun w' h' => token_r h'
      have HK : ∀ w', RdS w' rb o q (x :: r) → Calls Tryz.prog 141 #[.pointer (some ⟨rb, 0, none⟩), .int .i64 (x.k : Nat)] w' fun e w2 => e = .returned (.agg #[.int .i64 (x.k : Nat), .int .i64 x.n, stv x.t, .int .i64 (x.a : Nat)]) ∧ RdS w2 rb o q r ∧ Keep rb w' w2 := fun w' h' => by
        have := passKind_r x.k h' (by simp [passK])
        rw [show passK x.k (x :: r) = .ok x r by simp [passK]] at this
        exact this
      clear hn e1 hk hk2
      go_enter Tryz.func142, Tryz.ntmps142
      go_wp2_with fail
      refine c.mono ?_
      rintro e w2 ⟨rfl, b⟩
      have h2 := h.below b
      have K2 : Keep rb w w2 := Keep.ofBelow b
      clear c b h
      go_wp2_with fail
      refine (HT _ h2).mono ?_
      rintro e w3 ⟨rfl, b3⟩
      have h3 := h2.below b3
      have K3 := K2.trans (Keep.ofBelow b3)
      clear h2 K2 b3
      go_wp2_with fail
      refine (HK _ h3).mono ?_
      rintro e w4 ⟨rfl, h4, k4⟩
      have K4 := K3.trans k4
      clear h3 K3 k4 HT HK
      go_wp2
      go_ret
      exact ⟨rfl, h4, K4⟩
    · have e1 : passT s (x :: r) = .bad 120 x.a := by simp [passT, hk]
      rw [e1]
      show Calls _ _ _ _ (fun e w' => e = RefV 120 x.a ∧ Keep rb w w')
      have hk2 : (x.t == s) = false := by simpa using hk
      rw [hk2] at c
      clear hn e1 hk hk2
      go_enter Tryz.func142, Tryz.ntmps142
      go_wp2_with fail
      refine c.mono ?_
      rintro e w2 ⟨rfl, b⟩
      have c2 := refused_r 120 (h.below b)
      have K2 : Keep rb w w2 := Keep.ofBelow b
      clear c b h
      go_wp2_with fail
      refine c2.mono ?_
      rintro e w3 ⟨rfl, b3⟩
      have K4 := K2.trans (Keep.ofBelow b3)
      clear K2 c2 b3
      go_wp2
      exact ⟨rfl, rfl, K4⟩
/-- The number of openings turns. -/
theorem RdS.cells {w : World} {rb o q : Nat} {ts : List Tk} (h : RdS w rb o q ts) : w.cell? ⟨rb, 2, none⟩ = some (.int .i64 (o : Nat)) ∧ w.cell? ⟨rb, 3, none⟩ = some (.int .i64 (q : Nat)) ∧ (∀ j, w.frozen? ⟨rb, j, none⟩ = false) ∧ (∀ o' : Nat, RdS (w.setCell ⟨rb, 2, none⟩ (.int .i64 (o' : Nat))) rb o' q ts) ∧ (∀ q' : Nat, RdS (w.setCell ⟨rb, 3, none⟩ (.int .i64 (q' : Nat))) rb o q' ts) := by
  obtain ⟨g, cap, all, i, h1, h2, h4, h5⟩ := h
  refine ⟨by simp [cell_of_row w rb _ _ _ (0, 0) h1], by simp [cell_of_row w rb _ _ _ (0, 0) h1], fun j => frozen_of_row w rb j _ _ h1, fun o' => ?_, fun q' => ?_⟩
  · have hB := Blk.set (w := w) (o := fun _ => 0) (i := 0) (b := rb) ⟨h1, rfl⟩ 2 (.int .i64 (o' : Nat))
    exact ⟨g, cap, all, i, hB.1, h2, fun j u hu => (World.cell?_of_block (a := ⟨g, j, none⟩) (heap_setCell_other w ⟨rb, 2, none⟩ g _ (show g ≠ rb by omega))).trans (h4 j u hu), h5⟩
  · have hB := Blk.set (w := w) (o := fun _ => 0) (i := 0) (b := rb) ⟨h1, rfl⟩ 3 (.int .i64 (q' : Nat))
    exact ⟨g, cap, all, i, hB.1, h2, fun j u hu => (World.cell?_of_block (a := ⟨g, j, none⟩) (heap_setCell_other w ⟨rb, 3, none⟩ g _ (show g ≠ rb by omega))).trans (h4 j u hu), h5⟩
set_option maxRecDepth 100000 in
theorem leave_r {w : World} {rb o q : Nat} {ts : List Tk} (h : RdS w rb (o + 1) q ts) (ho : o ≤ 64) :
    Calls Tryz.prog 140 #[.pointer (some ⟨rb, 0, none⟩)] w fun e w' => e = .returned (.tuple #[]) ∧ RdS w' rb o q ts ∧ Keep rb w w' := by
  obtain ⟨c2, c3, hf, hs, -⟩ := h.cells
  have h2 := hs o
  have K := (Keep.refl rb w).set ⟨rb, 2, none⟩ (.int .i64 (o : Nat)) (.inr rfl)
  have e1 : ((o + 1 : Nat) : Int) = (o : Int) + 1 := by omega
  rw [e1] at c2
  clear h hs
  go_enter Tryz.func140, Tryz.ntmps140
  go_wp2
  go_end0
  exact ⟨rfl, h2, K⟩
set_option maxRecDepth 100000 in
theorem enter_r {w : World} {rb o q : Nat} {ts : List Tk} (s : List UInt8) (h : RdS w rb o q ts) (ho : o ≤ 64) (hn : enterT s o ts ≠ .out) :
    Calls Tryz.prog 139 #[.pointer (some ⟨rb, 0, none⟩), stv s] w (PostN rb (o + 1) q w (enterT s o ts)) := by
  cases ts with
  | nil => exact absurd rfl hn
  | cons x r =>
    have c := has_r s h
    by_cases hk : x.t = s
    · have hk2 : (x.t == s) = true := by simpa using hk
      rw [hk2] at c
      by_cases h64 : o = 64
      · have e1 : enterT s o (x :: r) = .bad 121 x.a := by simp [enterT, hk, h64]
        rw [e1]
        show Calls _ _ _ _ (fun e w' => e = RefV 121 x.a ∧ Keep rb w w')
        clear hn e1 hk hk2
        subst h64
        go_enter Tryz.func139, Tryz.ntmps139
        go_wp2_with fail
        refine c.mono ?_
        rintro e w2 ⟨rfl, b⟩
        have h2 := h.below b
        have c2 := refused_r 121 h2
        obtain ⟨d2, d3, -⟩ := h2.cells
        have K2 : Keep rb w w2 := Keep.ofBelow b
        clear c b h h2
        go_wp2_with fail
        refine c2.mono ?_
        rintro e w3 ⟨rfl, b3⟩
        have K4 := K2.trans (Keep.ofBelow b3)
        clear K2 c2 b3
        go_wp2
        exact ⟨rfl, rfl, K4⟩
      · have e1 : enterT s o (x :: r) = .ok x.a r := by simp [enterT, hk, h64]
        rw [e1]
        show Calls _ _ _ _ (fun e w' => e = .returned (.int .i64 (x.a : Nat)) ∧ RdS w' rb (o + 1) q r ∧ Keep rb w w')
        have h642 : ((o : Int) == 64) = false := by
          rw [beq_eq_false_iff_ne]
          omega
        have HP : ∀ w', RdS w' rb (o + 1) q (x :: r) → Calls Tryz.prog 142 #[.pointer (some ⟨rb, 0, none⟩), stv s] w' fun e w2 => e = .returned (.int .i64 (x.a : Nat)) ∧ RdS w2 rb (o + 1) q r ∧ Keep rb w' w2 := fun w' h' => by
          have := pass_r s h' (by simp [passT, hk])
          rw [show passT s (x :: r) = .ok x.a r by simp [passT, hk]] at this
          exact this
        clear hn e1 hk hk2
        go_enter Tryz.func139, Tryz.ntmps139
        go_wp2_with fail
        refine c.mono ?_
        rintro e w2 ⟨rfl, b⟩
        obtain ⟨d2, d3, df, hs, -⟩ := (h.below b).cells
        have h3 := hs (o + 1)
        have e2 : ((o + 1 : Nat) : Int) = (o : Int) + 1 := by omega
        rw [e2] at h3
        have K3 := (Keep.ofBelow (rb := rb) b).set ⟨rb, 2, none⟩ (.int .i64 ((o : Int) + 1)) (.inr rfl)
        have c2 := HP _ h3
        clear c b h hs h3 HP
        go_wp2_with fail
        refine c2.mono ?_
        rintro e w4 ⟨rfl, h4, k4⟩
        have K4 := K3.trans k4
        clear K3 c2 k4
        go_wp2
        go_ret
        exact ⟨rfl, h4, K4⟩
    · have e1 : enterT s o (x :: r) = .bad 120 x.a := by simp [enterT, hk]
      rw [e1]
      show Calls _ _ _ _ (fun e w' => e = RefV 120 x.a ∧ Keep rb w w')
      have hk2 : (x.t == s) = false := by simpa using hk
      rw [hk2] at c
      have HP : ∀ w', RdS w' rb (o + 1) q (x :: r) → Calls Tryz.prog 142 #[.pointer (some ⟨rb, 0, none⟩), stv s] w' fun e w2 => e = RefV 120 x.a ∧ Keep rb w' w2 := fun w' h' => by
        have := pass_r s h' (by simp [passT, hk])
        rw [show passT s (x :: r) = .bad 120 x.a by simp [passT, hk]] at this
        exact this
      clear hn e1 hk hk2
      go_enter Tryz.func139, Tryz.ntmps139
      go_wp2_with fail
      refine c.mono ?_
      rintro e w2 ⟨rfl, b⟩
      obtain ⟨d2, d3, df, hs, -⟩ := (h.below b).cells
      have h3 := hs (o + 1)
      have e2 : ((o + 1 : Nat) : Int) = (o : Int) + 1 := by omega
      rw [e2] at h3
      have K3 := (Keep.ofBelow (rb := rb) b).set ⟨rb, 2, none⟩ (.int .i64 ((o : Int) + 1)) (.inr rfl)
      have c2 := HP _ h3
      clear c b h hs h3 HP
      go_wp2_with fail
      refine c2.mono ?_
      rintro e w4 ⟨rfl, k4⟩
      have K4 := K3.trans k4
      clear K3 c2 k4
      go_wp2
      exact ⟨rfl, rfl, K4⟩
end Go.Proofs.YtafnlhnenmpfoaaGreatDoor
