/- The reader: an if. -/
import Derived.Test.YtafnlhnenmpfoaaGreatDoorSynC
namespace Go.Proofs.YtafnlhnenmpfoaaGreatDoor
open Go.ChangeShapes Go.WideShapes Go.ChangeAt Go.RowKit
set_option linter.unusedVariables false

/-- The three tables lie ahead of the reader. -/
structure Tabs (rb : Nat) (w : World) : Prop where
  op : OpW w
  cl : ClW w
  qn : QnW w
  g1 : 3 < rb
  g2 : 0 < rb
  g3 : 2 < rb
theorem Tabs.keep {rb : Nat} {w w' : World} (h : Tabs rb w) (k : Keep rb w w') : Tabs rb w' := by
  have l1 := h.op.lt
  have l2 := h.cl.lt
  have l3 := h.qn.lt
  obtain ⟨⟨t1, f1, h1⟩, ⟨t2, f2, h2⟩, ⟨t3, f3, h3⟩, g1, g2, g3⟩ := h
  exact ⟨⟨t1, f1, (k.block _ l1 (Nat.ne_of_lt g1)).trans h1⟩, ⟨t2, f2, (k.block _ l2 (Nat.ne_of_lt g2)).trans h2⟩, ⟨t3, f3, (k.block _ l3 (Nat.ne_of_lt g3)).trans h3⟩, g1, g2, g3⟩
/-- The program's reader of rows does as a plain one. -/
def RecOk (rec : Rdr) : Prop :=
  ∀ (w : World) (rb row o q : Nat) (ts : List Tk), row ≤ 8 → o ≤ 64 → q ≤ 4 → RdS w rb o q ts → Tabs rb w → rec row o q ts ≠ .out → Calls Tryz.prog 79 #[.pointer (some ⟨rb, 0, none⟩), .int .i64 (row : Nat)] w (PostE rb o q w (rec row o q ts))
/-- A tree's empty cells. -/
abbrev exZ : Obj := .cells #[.int .i64 0, .int .i64 0, .string ⟨#[]⟩, .slice none 0 0, .int .i64 0] 25
/-- Five cells are written. -/
theorem set5k {w : World} {b : Nat} {a0 a1 a2 a3 a4 : Value} (b0 b1 b2 b3 b4 : Value) {t : TypeId} (h : w.heap[b]? = some (.cells #[a0, a1, a2, a3, a4] t (0, 0))) : (((((w.setCell ⟨b, 0, none⟩ b0).setCell ⟨b, 1, none⟩ b1).setCell ⟨b, 2, none⟩ b2).setCell ⟨b, 3, none⟩ b3).setCell ⟨b, 4, none⟩ b4).heap[b]? = some (.cells #[b0, b1, b2, b3, b4] t (0, 0)) := by
  have h0 : Blk w (fun _ => 0) 0 b (.cells #[a0, a1, a2, a3, a4] t (0, 0)) := ⟨h, rfl⟩
  exact (((((h0.set 0 b0).set 1 b1).set 2 b2).set 3 b3).set 4 b4).1
theorem Keep.set5 {rb : Nat} {a w : World} (h : Keep rb a w) {b : Nat} (hb : a.heap.size ≤ b) (b0 b1 b2 b3 b4 : Value) : Keep rb a (((((w.setCell ⟨b, 0, none⟩ b0).setCell ⟨b, 1, none⟩ b1).setCell ⟨b, 2, none⟩ b2).setCell ⟨b, 3, none⟩ b3).setCell ⟨b, 4, none⟩ b4) := ((((h.set ⟨b, 0, none⟩ b0 (.inl hb)).set ⟨b, 1, none⟩ b1 (.inl hb)).set ⟨b, 2, none⟩ b2 (.inl hb)).set ⟨b, 3, none⟩ b3 (.inl hb)).set ⟨b, 4, none⟩ b4 (.inl hb)
theorem RdS.set5 {w : World} {rb o q : Nat} {ts : List Tk} (h : RdS w rb o q ts) {b : Nat} (hb : rb < b) (b0 b1 b2 b3 b4 : Value) : RdS (((((w.setCell ⟨b, 0, none⟩ b0).setCell ⟨b, 1, none⟩ b1).setCell ⟨b, 2, none⟩ b2).setCell ⟨b, 3, none⟩ b3).setCell ⟨b, 4, none⟩ b4) rb o q ts := ((((h.set ⟨b, 0, none⟩ b0 hb).set ⟨b, 1, none⟩ b1 hb).set ⟨b, 2, none⟩ b2 hb).set ⟨b, 3, none⟩ b3 hb).set ⟨b, 4, none⟩ b4 hb
theorem Sl.set5 {n : Nat} {w : World} {f : Fs} {ao : Option Addr} (h : Sl w (Nw n) f ao) {b : Nat} (hb : b < n) (b0 b1 b2 b3 b4 : Value) : Sl (((((w.setCell ⟨b, 0, none⟩ b0).setCell ⟨b, 1, none⟩ b1).setCell ⟨b, 2, none⟩ b2).setCell ⟨b, 3, none⟩ b3).setCell ⟨b, 4, none⟩ b4) (Nw n) f ao := ((((h.setN ⟨b, 0, none⟩ b0 hb).setN ⟨b, 1, none⟩ b1 hb).setN ⟨b, 2, none⟩ b2 hb).setN ⟨b, 3, none⟩ b3 hb).setN ⟨b, 4, none⟩ b4 hb
/-- All that a caller's box of five cells gives. -/
theorem box5 {w : World} {b : Nat} {a0 a1 a2 a3 a4 : Value} {t : TypeId} (h : w.heap[b]? = some (.cells #[a0, a1, a2, a3, a4] t (0, 0))) :
    w.cell? ⟨b, 0, none⟩ = some a0 ∧ w.cell? ⟨b, 1, none⟩ = some a1 ∧ w.cell? ⟨b, 2, none⟩ = some a2 ∧ w.cell? ⟨b, 3, none⟩ = some a3 ∧ w.cell? ⟨b, 4, none⟩ = some a4 ∧ ∀ j, w.frozen? ⟨b, j, none⟩ = false := Blk.cells5 (o := fun _ => 0) (i := 0) ⟨h, rfl⟩
theorem Keep.blk {rb : Nat} {w w' : World} (k : Keep rb w w') {b : Nat} {ob : Obj} (h : w.heap[b]? = some ob) (hb : b ≠ rb) : w'.heap[b]? = some ob := (k.block b (lt_of_block h) hb).trans h
set_option maxRecDepth 100000 in
theorem query_r {rec : Rdr} (R : RecOk rec) {w : World} {rb o q : Nat} {ts : List Tk} (ho : o ≤ 64) (hq : q ≤ 4) (h : RdS w rb o q ts) (T : Tabs rb w) (hn : rec 1 o q ts ≠ .out) :
    Calls Tryz.prog 42 #[.pointer (some ⟨rb, 0, none⟩)] w (PostE rb o q w (rec 1 o q ts)) := by
  have hrb := h.lt
  have K0 : Keep rb w (w.alloc exZ) := (Keep.refl rb w).alloc _
  have c := R (w.alloc exZ) rb 1 o q ts (by omega) ho hq (h.alloc _) (T.keep K0) hn
  have Z0 : (w.alloc exZ).heap[w.heap.size]? = some exZ := heap_alloc_new w _
  have hs0 : w.heap.size ≤ (w.alloc exZ).heap.size := K0.size
  have hs1 : w.heap.size < (w.alloc exZ).heap.size := by simp
  generalize hres : rec 1 o q ts = res at *
  cases res using Rs.on with
  | out => exact absurd rfl hn
  | bad er a =>
    show Calls _ _ _ _ (fun e w' => e = RefV er a ∧ Keep rb w w')
    have c : Calls _ _ _ _ (fun e w' => e = RefV er a ∧ Keep rb (w.alloc exZ) w') := c
    clear hn hres
    go_enter Tryz.func42, Tryz.ntmps42
    go_wp2_with fail
    refine c.mono ?_
    rintro e w2 ⟨rfl, k2⟩
    have K2 := K0.trans k2
    clear c k2 K0 Z0 T h
    go_wp2
    exact ⟨rfl, rfl, K2⟩
  | ok x t2 =>
    show Calls _ _ _ _ (fun e w' => ∃ ao cap, e = .returned (exV x ao cap) ∧ Sl w' (Nw w.heap.size) x.kids ao ∧ RdS w' rb o q t2 ∧ Keep rb w w')
    have c : Calls _ _ _ _ (fun e w' => ∃ ao cap, e = .returned (exV x ao cap) ∧ Sl w' (Nw (w.alloc exZ).heap.size) x.kids ao ∧ RdS w' rb o q t2 ∧ Keep rb (w.alloc exZ) w') := c
    clear hn hres
    go_enter Tryz.func42, Tryz.ntmps42
    go_wp2_with fail
    refine c.mono ?_
    rintro e w2 ⟨ao, cap, rfl, S2, R2, k2⟩
    have Z2 := k2.blk Z0 (by omega)
    have K2 := K0.trans k2
    have KE := K2.set5 (Nat.le_refl _) (.int .i64 x.k) (.int .i64 x.n) (stv x.nm) (.slice ao x.kids.len cap) (.int .i64 x.a)
    have RE := R2.set5 hrb (.int .i64 x.k) (.int .i64 x.n) (stv x.nm) (.slice ao x.kids.len cap) (.int .i64 x.a)
    have SE := (S2.set5 hs1 (.int .i64 x.k) (.int .i64 x.n) (stv x.nm) (.slice ao x.kids.len cap) (.int .i64 x.a)).low hs0
    have ZE := set5k (.int .i64 x.k) (.int .i64 x.n) (stv x.nm) (.slice ao x.kids.len cap) (.int .i64 x.a) Z2
    obtain ⟨z0, z1, z2, z3, z4, zf⟩ := box5 Z2
    obtain ⟨u0, u1, u2, u3, u4, -⟩ := box5 ZE
    clear c k2 K0 Z0 T h K2 S2 R2 Z2 ZE
    unfold exV
    go_wp2
    exact bodyPost_ret (v := exV x ao cap) (by simp [results, Tryz.results42, go_sem, u0, u1, u2, u3, u4, exV]) rfl ⟨ao, cap, rfl, SE, RE, KE⟩
end Go.Proofs.YtafnlhnenmpfoaaGreatDoor
namespace Go.Proofs.YtafnlhnenmpfoaaGreatDoor
open Go.ChangeShapes Go.WideShapes Go.ChangeAt Go.RowKit
set_option linter.unusedVariables false

/-- A new slice of trees. -/
theorem Sl.fresh {w : World} {n : Nat} {f : Fs} (xs : List Value) (t : TypeId) (h : Fc w (Nw n) f xs) (hn : n ≤ w.heap.size) : Sl (w.alloc (.cells xs.toArray t)) (Nw n) f (some ⟨w.heap.size, 0, none⟩) := by
  refine Sl.of hn (by simp) (fun j u hu => ?_) (h.allocN _)
  rw [Nat.zero_add]
  rw [cell_of_row _ w.heap.size j _ t (0, 0) (heap_alloc_new w _)]
  simpa using hu
theorem exV_out (e : Ex) (ao : Option Addr) (cap : Nat) : exV e ao cap = .agg #[.int .i64 e.k, .int .i64 e.n, stv e.nm, .slice ao e.kids.len cap, .int .i64 e.a] := rfl
set_option maxRecDepth 100000 in
set_option maxHeartbeats 1000000 in
theorem pref_r {rec : Rdr} (R : RecOk rec) {w : World} {rb o q : Nat} {ts : List Tk} (s : List UInt8) (k row : Nat) (hrow : row ≤ 7) (ho : o ≤ 64) (hq : q ≤ 4) (h : RdS w rb o q ts) (T : Tabs rb w) (hn : prefR rec s (k : Nat) row o q ts ≠ .out) :
    Calls Tryz.prog 121 #[.pointer (some ⟨rb, 0, none⟩), stv s, .int .i64 (k : Nat), .int .i64 (row : Nat)] w (PostE rb o q w (prefR rec s (k : Nat) row o q ts)) := by
  obtain ⟨W, hW⟩ : ∃ W, W = prefR rec s (k : Nat) row o q ts := ⟨_, rfl⟩
  rw [← hW] at hn ⊢
  cases ts with
  | nil => exact absurd hW hn
  | cons x r =>
  have HW : Hid (W = prefR rec s (k : Nat) row o q (x :: r)) := hW
  have hrb := h.lt
  have K0 : Keep rb w (w.alloc exZ) := (Keep.refl rb w).alloc _
  have Z0 : (w.alloc exZ).heap[w.heap.size]? = some exZ := heap_alloc_new w _
  have c0 := has_r s (h.alloc exZ)
  have h0 := h.alloc exZ
  have hs1 : w.heap.size < (w.alloc exZ).heap.size := by simp
  clear hW h
  go_enter Tryz.func121, Tryz.ntmps121
  go_wp2_with fail
  refine c0.mono ?_
  rintro e w2 ⟨rfl, b2⟩
  have h2 := h0.below b2
  have K2 := K0.trans (Keep.ofBelow (rb := rb) b2)
  have Z2 := (Keep.ofBelow (rb := rb) b2).blk Z0 (by omega)
  have hs2 : w.heap.size < w2.heap.size := lt_of_block Z2
  clear c0 h0 K0 Z0 b2 hs1
  by_cases hx : x.t = s
  · have hx2 : (x.t == s) = true := by simpa using hx
    have c1 := enter_r s h2 ho (by simp only [enterT, hx, if_true]; split <;> simp)
    by_cases h64 : o = 64
    · have e1 : enterT s o (x :: r) = .bad 121 x.a := by simp [enterT, hx, h64]
      rw [e1] at c1
      have c1 : Calls _ _ _ _ (fun e w' => e = RefV 121 x.a ∧ Keep rb w2 w') := c1
      have fin : W = .bad 121 x.a := by rw [HW.out]; simp [prefR, hx, h64]
      clear e1 h64 hx T
      go_wp2_with fail
      refine c1.mono ?_
      rintro e w3 ⟨rfl, k3⟩
      have K3 := K2.trans k3
      clear c1 k3 K2 h2 Z2
      go_wp2
      exact ⟨rfl, And.intro rfl K3⟩
    · have e1 : enterT s o (x :: r) = .ok x.a r := by simp [enterT, hx, h64]
      rw [e1] at c1
      have c1 : Calls _ _ _ _ (fun e w' => e = .returned (.int .i64 (x.a : Nat)) ∧ RdS w' rb (o + 1) q r ∧ Keep rb w2 w') := c1
      have hW1 : W = (rec row (o + 1) q r).bind fun kid t2 => .ok ⟨(k : Nat), 0, [], x.a, one kid⟩ t2 := by rw [HW.out]; simp [prefR, hx, h64]
      clear e1 hx HW
      go_wp2_with fail
      refine c1.mono ?_
      rintro e w3 ⟨rfl, h3, k3⟩
      have K3 := K2.trans k3
      have Z3 := k3.blk Z2 (by omega)
      have hs3 : w.heap.size < w3.heap.size := lt_of_block Z3
      have T3 := T.keep K3
      have c2 := R w3 rb row (o + 1) q r (by omega) (by omega) hq h3 T3 (fun e => hn (by rw [hW1, e]; rfl))
      clear c1 k3 K2 h2 Z2 h3
      go_wp2_with fail
      refine c2.mono ?_
      rintro e w4 hP
      cases hr : rec row (o + 1) q r using Rs.on with
      | out => rw [hr] at hP; exact hP.elim
      | bad er a =>
        rw [hr] at hP hW1
        obtain ⟨rfl, k4⟩ := hP
        have K4 := K3.trans k4
        clear c2 k4 K3 Z3 T3 T
        go_wp2
        exact ⟨rfl, And.intro rfl K4⟩
      | ok y t2 =>
        rw [hr] at hP hW1
        obtain ⟨ao, cap, rfl, S4, R4, k4⟩ := hP
        have K4 := K3.trans k4
        have Z4 := k4.blk Z3 (by omega)
        have hn4 : w.heap.size ≤ w4.heap.size := K4.size
        have Y5 : (w4.alloc (.cells #[.int .i64 y.k, .int .i64 y.n, stv y.nm, .slice ao y.kids.len cap, .int .i64 y.a] 25)).heap[w4.heap.size]? = _ := heap_alloc_new w4 _
        have R5 := R4.alloc (.cells #[.int .i64 y.k, .int .i64 y.n, stv y.nm, .slice ao y.kids.len cap, .int .i64 y.a] 25)
        have K5 := K4.alloc (.cells #[.int .i64 y.k, .int .i64 y.n, stv y.nm, .slice ao y.kids.len cap, .int .i64 y.a] 25)
        have S5 := (S4.allocN (.cells #[.int .i64 y.k, .int .i64 y.n, stv y.nm, .slice ao y.kids.len cap, .int .i64 y.a] 25)).low (show w.heap.size + 1 ≤ w3.heap.size from hs3)
        have Z5 := (Below.heap_alloc w4 (.cells #[.int .i64 y.k, .int .i64 y.n, stv y.nm, .slice ao y.kids.len cap, .int .i64 y.a] 25) _ (lt_of_block Z4)).trans Z4
        have c3 := leave_r R5 ho
        have hlt4 := lt_of_block Z4
        clear c2 k4 K3 Z3 T3 T K4 Z4 S4 R4 R5
        unfold exV
        go_wp2_with fail
        refine c3.mono ?_
        rintro e w6 ⟨rfl, R6, k6⟩
        have K6 := K5.trans k6
        have Y6 := k6.blk Y5 (by omega)
        have Z6 := k6.blk Z5 (by omega)
        have S6 := S5.keepN k6 (Nat.lt_succ_of_lt hrb)
        have F6 := Fc.one (e := y) cap S6
        have N6 := Sl.fresh _ 25 F6 (lt_of_block Z6)
        have K7 := K6.alloc (.cells [.int .i64 y.k, .int .i64 y.n, stv y.nm, .slice ao y.kids.len cap, .int .i64 y.a].toArray 25)
        have R7 := R6.alloc (.cells [.int .i64 y.k, .int .i64 y.n, stv y.nm, .slice ao y.kids.len cap, .int .i64 y.a].toArray 25)
        have Z7 := (Below.heap_alloc w6 (.cells [.int .i64 y.k, .int .i64 y.n, stv y.nm, .slice ao y.kids.len cap, .int .i64 y.a].toArray 25) _ (lt_of_block Z6)).trans Z6
        obtain ⟨y0, y1, y2, y3, y4, yf⟩ := box5 Y6
        have KE := K7.set5 (Nat.le_refl _) (.int .i64 (k : Nat)) (.int .i64 0) (.string ⟨#[]⟩) (.slice (some ⟨w6.heap.size, 0, none⟩) 1 1) (.int .i64 (x.a : Nat))
        have RE := R7.set5 hrb (.int .i64 (k : Nat)) (.int .i64 0) (.string ⟨#[]⟩) (.slice (some ⟨w6.heap.size, 0, none⟩) 1 1) (.int .i64 (x.a : Nat))
        have ZE := set5k (.int .i64 (k : Nat)) (.int .i64 0) (.string ⟨#[]⟩) (.slice (some ⟨w6.heap.size, 0, none⟩) 1 1) (.int .i64 (x.a : Nat)) Z7
        obtain ⟨z0, z1, z2, z3, z4, zf⟩ := box5 Z7
        obtain ⟨u0, u1, u2, u3, u4, -⟩ := box5 ZE
        clear c3 k6 K5 Y5 Y6 Z5 S5 F6
        have SE := (N6.set5 (Nat.lt_succ_self w.heap.size) (.int .i64 (k : Nat)) (.int .i64 0) (.string ⟨#[]⟩) (.slice (some ⟨w6.heap.size, 0, none⟩) 1 1) (.int .i64 (x.a : Nat))).low (Nat.le_succ _)
        go_wp2
        exact bodyPost_ret (v := exV ⟨(k : Nat), 0, [], x.a, one y⟩ (some ⟨w6.heap.size, 0, none⟩) 1) (by simp [results, Tryz.results121, go_sem, u0, u1, u2, u3, u4, exV]; rfl) rfl (by rw [hW1]; exact ⟨_, _, rfl, SE, RE, KE⟩)
  · have hx2 : (x.t == s) = false := by simpa using hx
    have hW1 : W = rec (row + 1) o q (x :: r) := by rw [HW.out]; simp [prefR, hx]
    have c2 := R w2 rb (row + 1) o q (x :: r) (by omega) ho hq h2 (T.keep K2) (fun e => hn (by rw [hW1, e]))
    have e1 : ((row + 1 : Nat) : Int) = (row : Int) + 1 := by omega
    rw [e1] at c2
    have HW1 : Hid (W = rec (row + 1) o q (x :: r)) := hW1
    clear hx HW h2 T hW1
    go_wp2_with fail
    refine c2.mono ?_
    rintro e w4 hP
    rw [← HW1.out] at hP
    cases W using Rs.on with
    | out => exact hP.elim
    | bad er a =>
      obtain ⟨rfl, k4⟩ := hP
      have K4 := K2.trans k4
      clear c2 k4 K2 Z2 HW1
      go_wp2
      exact ⟨rfl, And.intro rfl K4⟩
    | ok y t2 =>
      obtain ⟨ao, cap, rfl, S4, R4, k4⟩ := hP
      have Z4 := k4.blk Z2 (by omega)
      have K4 := K2.trans k4
      have KE := K4.set5 (Nat.le_refl _) (.int .i64 y.k) (.int .i64 y.n) (stv y.nm) (.slice ao y.kids.len cap) (.int .i64 y.a)
      have RE := R4.set5 hrb (.int .i64 y.k) (.int .i64 y.n) (stv y.nm) (.slice ao y.kids.len cap) (.int .i64 y.a)
      have SE := (S4.set5 hs2 (.int .i64 y.k) (.int .i64 y.n) (stv y.nm) (.slice ao y.kids.len cap) (.int .i64 y.a)).low (Nat.le_of_lt hs2)
      have ZE := set5k (.int .i64 y.k) (.int .i64 y.n) (stv y.nm) (.slice ao y.kids.len cap) (.int .i64 y.a) Z4
      obtain ⟨z0, z1, z2, z3, z4, zf⟩ := box5 Z4
      obtain ⟨u0, u1, u2, u3, u4, -⟩ := box5 ZE
      clear c2 k4 K2 K4 S4 R4 Z4 ZE HW1 Z2
      unfold exV
      go_wp2
      exact bodyPost_ret (v := exV y ao cap) (by simp [results, Tryz.results121, go_sem, u0, u1, u2, u3, u4, exV]) rfl ⟨ao, cap, rfl, SE, RE, KE⟩
end Go.Proofs.YtafnlhnenmpfoaaGreatDoor
namespace Go.Proofs.YtafnlhnenmpfoaaGreatDoor
open Go.ChangeShapes Go.WideShapes Go.ChangeAt Go.RowKit
set_option linter.unusedVariables false
set_option linter.unusedSimpArgs false

theorem enter_le {s : List UInt8} {o : Nat} {ts : List Tk} {a : Nat} {r : List Tk} (h : enterT s o ts = .ok a r) (ho : o ≤ 64) : o + 1 ≤ 64 := by
  cases ts with
  | nil => cases h
  | cons x l =>
    unfold enterT at h
    by_cases hx : x.t = s
    · by_cases h64 : o = 64
      · simp [hx, h64] at h
      · omega
    · simp [hx] at h
set_option maxRecDepth 100000 in
set_option maxHeartbeats 2000000 in
theorem choice_r {rec : Rdr} (R : RecOk rec) {w : World} {rb o q : Nat} {ts : List Tk} (ho : o ≤ 64) (hq : q ≤ 4) (h : RdS w rb o q ts) (T : Tabs rb w) (hn : choiceR rec o q ts ≠ .out) :
    Calls Tryz.prog 144 #[.pointer (some ⟨rb, 0, none⟩)] w (PostE rb o q w (choiceR rec o q ts)) := by
  obtain ⟨W, hW⟩ : ∃ W, W = choiceR rec o q ts := ⟨_, rfl⟩
  rw [← hW] at hn ⊢
  have HW : Hid (W = choiceR rec o q ts) := hW
  have hrb := h.lt
  have K0 : Keep rb w (w.alloc exZ) := (Keep.refl rb w).alloc _
  have Z0 : (w.alloc exZ).heap[w.heap.size]? = some exZ := heap_alloc_new w _
  have h0 := h.alloc exZ
  have T0 := T.keep K0
  clear hW
  go_enter Tryz.func144, Tryz.ntmps144
  have c1 := enter_r [105, 102] h0 ho (fun e => hn (by rw [HW.out]; simp only [choiceR, e, Rs.bind]))
  go_wp2_with fail
  refine c1.mono ?_
  rintro e w1 hP
  clear c1
  cases hr1 : enterT [105, 102] o ts using Rs.on with
  | out => rw [hr1] at hP; exact hP.elim
  | bad er a =>
    rw [hr1] at hP
    obtain ⟨rfl, k1⟩ := hP
    have KB := K0.trans k1
    have FIN : Hid (W = .bad er a) := by show W = _; rw [HW.out]; simp only [choiceR, hr1, Rs.bind]
    clear HW
    go_wp2
    exact ⟨rfl, by rw [FIN.out]; exact And.intro rfl KB⟩
  | ok a0 t1 =>
    rw [hr1] at hP
    obtain ⟨rfl, h1, k1⟩ := hP
    have Z1 := k1.blk Z0 (by have := K0.size; omega)
    have K1 := K0.trans k1
    have T1 := T0.keep k1
    clear K0 T0 Z0
    have ho1 := enter_le hr1 ho
    have c2 := query_r R (o := o + 1) (q := q) (by omega) (by omega) h1 T1 (fun e => hn (by rw [HW.out]; simp only [choiceR, hr1, e, Rs.bind]))
    go_wp2_with fail
    refine c2.mono ?_
    rintro e w2 hP
    clear c2
    cases hr2 : rec 1 (o + 1) q t1 using Rs.on with
    | out => rw [hr2] at hP; exact hP.elim
    | bad er a =>
      rw [hr2] at hP
      obtain ⟨rfl, k2⟩ := hP
      have KB := K1.trans k2
      have FIN : Hid (W = .bad er a) := by show W = _; rw [HW.out]; simp only [choiceR, hr1, hr2, Rs.bind]
      clear HW
      go_wp2
      exact ⟨rfl, by rw [FIN.out]; exact And.intro rfl KB⟩
    | ok x2 t2 =>
      rw [hr2] at hP
      obtain ⟨ao2, cap2, rfl, S2, h2, k2⟩ := hP
      have S2a := S2.low (show (w.heap.size + 1) ≤ _ from (by have := lt_of_block Z1; omega))
      clear S2
      have Z2 := k2.blk Z1 (by have := K1.size; omega)
      have K2 := K1.trans k2
      have T2 := T1.keep k2
      clear K1 T1 Z1
      have h2a := h2.alloc (.cells #[.int .i64 x2.k, .int .i64 x2.n, stv x2.nm, .slice ao2 x2.kids.len cap2, .int .i64 x2.a] 25)
      have K2a := K2.alloc (.cells #[.int .i64 x2.k, .int .i64 x2.n, stv x2.nm, .slice ao2 x2.kids.len cap2, .int .i64 x2.a] 25)
      have Z2a := (Below.heap_alloc w2 (.cells #[.int .i64 x2.k, .int .i64 x2.n, stv x2.nm, .slice ao2 x2.kids.len cap2, .int .i64 x2.a] 25) _ (lt_of_block Z2)).trans Z2
      have Y2_a : (World.alloc w2 (.cells #[.int .i64 x2.k, .int .i64 x2.n, stv x2.nm, .slice ao2 x2.kids.len cap2, .int .i64 x2.a] 25)).heap[w2.heap.size]? = some (.cells #[.int .i64 x2.k, .int .i64 x2.n, stv x2.nm, .slice ao2 x2.kids.len cap2, .int .i64 x2.a] 25) := heap_alloc_new w2 _
      have S2a_2b := S2a.allocN (.cells #[.int .i64 x2.k, .int .i64 x2.n, stv x2.nm, .slice ao2 x2.kids.len cap2, .int .i64 x2.a] 25)
      have T2a := T2.keep ((Keep.refl rb w2).alloc (.cells #[.int .i64 x2.k, .int .i64 x2.n, stv x2.nm, .slice ao2 x2.kids.len cap2, .int .i64 x2.a] 25))
      have hb2 : rb < w2.heap.size := by have := K2.size; omega
      clear K2 Z2 S2a T2 h2
      rw [exV_out]
      have c3 := pass_r [116, 104, 101, 110] h2a (fun e => hn (by rw [HW.out]; simp only [choiceR, hr1, hr2, e, Rs.bind]))
      go_wp2_with fail
      refine c3.mono ?_
      rintro e w3 hP
      clear c3
      cases hr3 : passT [116, 104, 101, 110] t2 using Rs.on with
      | out => rw [hr3] at hP; exact hP.elim
      | bad er a =>
        rw [hr3] at hP
        obtain ⟨rfl, k3⟩ := hP
        have KB := K2a.trans k3
        have FIN : Hid (W = .bad er a) := by show W = _; rw [HW.out]; simp only [choiceR, hr1, hr2, hr3, Rs.bind]
        clear HW
        go_wp2
        exact ⟨rfl, by rw [FIN.out]; exact And.intro rfl KB⟩
      | ok x3 t3 =>
        rw [hr3] at hP
        obtain ⟨rfl, h3, k3⟩ := hP
        have Z3 := k3.blk Z2a (by have := K2a.size; omega)
        have K3 := K2a.trans k3
        have Y2_3 := k3.blk Y2_a (by omega)
        have S2a_3 := S2a_2b.keepN k3 (by omega)
        have T3 := T2a.keep k3
        clear K2a Y2_a S2a_2b T2a Z2a
        have hbb : rb < w3.heap.size := by have := K3.size; omega
        have c4 := query_r R (o := o + 1) (q := q) (by omega) (by omega) h3 T3 (fun e => hn (by rw [HW.out]; simp only [choiceR, hr1, hr2, hr3, e, Rs.bind]))
        go_wp2_with fail
        refine c4.mono ?_
        rintro e w4 hP
        clear c4
        cases hr4 : rec 1 (o + 1) q t3 using Rs.on with
        | out => rw [hr4] at hP; exact hP.elim
        | bad er a =>
          rw [hr4] at hP
          obtain ⟨rfl, k4⟩ := hP
          have KB := K3.trans k4
          have FIN : Hid (W = .bad er a) := by show W = _; rw [HW.out]; simp only [choiceR, hr1, hr2, hr3, hr4, Rs.bind]
          clear HW
          go_wp2
          exact ⟨rfl, by rw [FIN.out]; exact And.intro rfl KB⟩
        | ok x4 t4 =>
          rw [hr4] at hP
          obtain ⟨ao4, cap4, rfl, S4, h4, k4⟩ := hP
          have S4a := S4.low (show (w.heap.size + 1) ≤ _ from (by have := lt_of_block Z3; omega))
          clear S4
          have Z4 := k4.blk Z3 (by have := K3.size; omega)
          have K4 := K3.trans k4
          have Y2_4 := k4.blk Y2_3 (by omega)
          have S2a_4 := S2a_3.keepN k4 (by omega)
          have T4 := T3.keep k4
          clear K3 Y2_3 S2a_3 T3 Z3
          have h4a := h4.alloc (.cells #[.int .i64 x4.k, .int .i64 x4.n, stv x4.nm, .slice ao4 x4.kids.len cap4, .int .i64 x4.a] 25)
          have K4a := K4.alloc (.cells #[.int .i64 x4.k, .int .i64 x4.n, stv x4.nm, .slice ao4 x4.kids.len cap4, .int .i64 x4.a] 25)
          have Z4a := (Below.heap_alloc w4 (.cells #[.int .i64 x4.k, .int .i64 x4.n, stv x4.nm, .slice ao4 x4.kids.len cap4, .int .i64 x4.a] 25) _ (lt_of_block Z4)).trans Z4
          have Y2_4a := (Below.heap_alloc w4 (.cells #[.int .i64 x4.k, .int .i64 x4.n, stv x4.nm, .slice ao4 x4.kids.len cap4, .int .i64 x4.a] 25) _ (lt_of_block Y2_4)).trans Y2_4
          have Y4_a : (World.alloc w4 (.cells #[.int .i64 x4.k, .int .i64 x4.n, stv x4.nm, .slice ao4 x4.kids.len cap4, .int .i64 x4.a] 25)).heap[w4.heap.size]? = some (.cells #[.int .i64 x4.k, .int .i64 x4.n, stv x4.nm, .slice ao4 x4.kids.len cap4, .int .i64 x4.a] 25) := heap_alloc_new w4 _
          have S2a_4b := S2a_4.allocN (.cells #[.int .i64 x4.k, .int .i64 x4.n, stv x4.nm, .slice ao4 x4.kids.len cap4, .int .i64 x4.a] 25)
          have S4a_4b := S4a.allocN (.cells #[.int .i64 x4.k, .int .i64 x4.n, stv x4.nm, .slice ao4 x4.kids.len cap4, .int .i64 x4.a] 25)
          have T4a := T4.keep ((Keep.refl rb w4).alloc (.cells #[.int .i64 x4.k, .int .i64 x4.n, stv x4.nm, .slice ao4 x4.kids.len cap4, .int .i64 x4.a] 25))
          have hb4 : rb < w4.heap.size := by have := K4.size; omega
          clear K4 Z4 Y2_4 S2a_4 S4a T4 h4
          rw [exV_out]
          have c5 := pass_r [101, 108, 115, 101] h4a (fun e => hn (by rw [HW.out]; simp only [choiceR, hr1, hr2, hr3, hr4, e, Rs.bind]))
          go_wp2_with fail
          refine c5.mono ?_
          rintro e w5 hP
          clear c5
          cases hr5 : passT [101, 108, 115, 101] t4 using Rs.on with
          | out => rw [hr5] at hP; exact hP.elim
          | bad er a =>
            rw [hr5] at hP
            obtain ⟨rfl, k5⟩ := hP
            have KB := K4a.trans k5
            have FIN : Hid (W = .bad er a) := by show W = _; rw [HW.out]; simp only [choiceR, hr1, hr2, hr3, hr4, hr5, Rs.bind]
            clear HW
            go_wp2
            exact ⟨rfl, by rw [FIN.out]; exact And.intro rfl KB⟩
          | ok x5 t5 =>
            rw [hr5] at hP
            obtain ⟨rfl, h5, k5⟩ := hP
            have Z5 := k5.blk Z4a (by have := K4a.size; omega)
            have K5 := K4a.trans k5
            have Y2_5 := k5.blk Y2_4a (by omega)
            have Y4_5 := k5.blk Y4_a (by omega)
            have S2a_5 := S2a_4b.keepN k5 (by omega)
            have S4a_5 := S4a_4b.keepN k5 (by omega)
            have T5 := T4a.keep k5
            clear K4a Y2_4a Y4_a S2a_4b S4a_4b T4a Z4a
            have hbb : rb < w5.heap.size := by have := K5.size; omega
            have c6 := query_r R (o := o + 1) (q := q) (by omega) (by omega) h5 T5 (fun e => hn (by rw [HW.out]; simp only [choiceR, hr1, hr2, hr3, hr4, hr5, e, Rs.bind]))
            go_wp2_with fail
            refine c6.mono ?_
            rintro e w6 hP
            clear c6
            cases hr6 : rec 1 (o + 1) q t5 using Rs.on with
            | out => rw [hr6] at hP; exact hP.elim
            | bad er a =>
              rw [hr6] at hP
              obtain ⟨rfl, k6⟩ := hP
              have KB := K5.trans k6
              have FIN : Hid (W = .bad er a) := by show W = _; rw [HW.out]; simp only [choiceR, hr1, hr2, hr3, hr4, hr5, hr6, Rs.bind]
              clear HW
              go_wp2
              exact ⟨rfl, by rw [FIN.out]; exact And.intro rfl KB⟩
            | ok x6 t6 =>
              rw [hr6] at hP
              obtain ⟨ao6, cap6, rfl, S6, h6, k6⟩ := hP
              have S6a := S6.low (show (w.heap.size + 1) ≤ _ from (by have := lt_of_block Z5; omega))
              clear S6
              have Z6 := k6.blk Z5 (by have := K5.size; omega)
              have K6 := K5.trans k6
              have Y2_6 := k6.blk Y2_5 (by omega)
              have Y4_6 := k6.blk Y4_5 (by omega)
              have S2a_6 := S2a_5.keepN k6 (by omega)
              have S4a_6 := S4a_5.keepN k6 (by omega)
              have T6 := T5.keep k6
              clear K5 Y2_5 Y4_5 S2a_5 S4a_5 T5 Z5
              have h6a := h6.alloc (.cells #[.int .i64 x6.k, .int .i64 x6.n, stv x6.nm, .slice ao6 x6.kids.len cap6, .int .i64 x6.a] 25)
              have K6a := K6.alloc (.cells #[.int .i64 x6.k, .int .i64 x6.n, stv x6.nm, .slice ao6 x6.kids.len cap6, .int .i64 x6.a] 25)
              have Z6a := (Below.heap_alloc w6 (.cells #[.int .i64 x6.k, .int .i64 x6.n, stv x6.nm, .slice ao6 x6.kids.len cap6, .int .i64 x6.a] 25) _ (lt_of_block Z6)).trans Z6
              have Y2_6a := (Below.heap_alloc w6 (.cells #[.int .i64 x6.k, .int .i64 x6.n, stv x6.nm, .slice ao6 x6.kids.len cap6, .int .i64 x6.a] 25) _ (lt_of_block Y2_6)).trans Y2_6
              have Y4_6a := (Below.heap_alloc w6 (.cells #[.int .i64 x6.k, .int .i64 x6.n, stv x6.nm, .slice ao6 x6.kids.len cap6, .int .i64 x6.a] 25) _ (lt_of_block Y4_6)).trans Y4_6
              have Y6_a : (World.alloc w6 (.cells #[.int .i64 x6.k, .int .i64 x6.n, stv x6.nm, .slice ao6 x6.kids.len cap6, .int .i64 x6.a] 25)).heap[w6.heap.size]? = some (.cells #[.int .i64 x6.k, .int .i64 x6.n, stv x6.nm, .slice ao6 x6.kids.len cap6, .int .i64 x6.a] 25) := heap_alloc_new w6 _
              have S2a_6b := S2a_6.allocN (.cells #[.int .i64 x6.k, .int .i64 x6.n, stv x6.nm, .slice ao6 x6.kids.len cap6, .int .i64 x6.a] 25)
              have S4a_6b := S4a_6.allocN (.cells #[.int .i64 x6.k, .int .i64 x6.n, stv x6.nm, .slice ao6 x6.kids.len cap6, .int .i64 x6.a] 25)
              have S6a_6b := S6a.allocN (.cells #[.int .i64 x6.k, .int .i64 x6.n, stv x6.nm, .slice ao6 x6.kids.len cap6, .int .i64 x6.a] 25)
              have T6a := T6.keep ((Keep.refl rb w6).alloc (.cells #[.int .i64 x6.k, .int .i64 x6.n, stv x6.nm, .slice ao6 x6.kids.len cap6, .int .i64 x6.a] 25))
              have hb6 : rb < w6.heap.size := by have := K6.size; omega
              clear K6 Z6 Y2_6 Y4_6 S2a_6 S4a_6 S6a T6 h6
              rw [exV_out]
              have c7 := leave_r h6a ho
              go_wp2_with fail
              refine c7.mono ?_
              rintro e w7 ⟨rfl, h7, k7⟩
              clear c7
              have Z7 := k7.blk Z6a (by have := K6a.size; omega)
              have K7 := K6a.trans k7
              have Y2_7 := k7.blk Y2_6a (by omega)
              have Y4_7 := k7.blk Y4_6a (by omega)
              have Y6_7 := k7.blk Y6_a (by omega)
              have S2a_7 := S2a_6b.keepN k7 (by omega)
              have S4a_7 := S4a_6b.keepN k7 (by omega)
              have S6a_7 := S6a_6b.keepN k7 (by omega)
              have T7 := T6a.keep k7
              clear K6a Y2_6a Y4_6a Y6_a S2a_6b S4a_6b S6a_6b T6a Z6a
              have NS : Sl (World.alloc w7 (.cells [.int .i64 x2.k, .int .i64 x2.n, stv x2.nm, .slice ao2 x2.kids.len cap2, .int .i64 x2.a, .int .i64 x4.k, .int .i64 x4.n, stv x4.nm, .slice ao4 x4.kids.len cap4, .int .i64 x4.a, .int .i64 x6.k, .int .i64 x6.n, stv x6.nm, .slice ao6 x6.kids.len cap6, .int .i64 x6.a].toArray 25)) (Nw (w.heap.size + 1)) (((one x2).snoc x4).snoc x6) (some ⟨w7.heap.size, 0, none⟩) := Sl.fresh _ 25 (Fc.app (Fc.app (Fc.one (e := x2) cap2 S2a_7) (Fc.one (e := x4) cap4 S4a_7)) (Fc.one (e := x6) cap6 S6a_7)) (by have := lt_of_block Z7; omega)
              have KF := K7.alloc (.cells [.int .i64 x2.k, .int .i64 x2.n, stv x2.nm, .slice ao2 x2.kids.len cap2, .int .i64 x2.a, .int .i64 x4.k, .int .i64 x4.n, stv x4.nm, .slice ao4 x4.kids.len cap4, .int .i64 x4.a, .int .i64 x6.k, .int .i64 x6.n, stv x6.nm, .slice ao6 x6.kids.len cap6, .int .i64 x6.a].toArray 25)
              have RF := h7.alloc (.cells [.int .i64 x2.k, .int .i64 x2.n, stv x2.nm, .slice ao2 x2.kids.len cap2, .int .i64 x2.a, .int .i64 x4.k, .int .i64 x4.n, stv x4.nm, .slice ao4 x4.kids.len cap4, .int .i64 x4.a, .int .i64 x6.k, .int .i64 x6.n, stv x6.nm, .slice ao6 x6.kids.len cap6, .int .i64 x6.a].toArray 25)
              have ZF := (Below.heap_alloc w7 (.cells [.int .i64 x2.k, .int .i64 x2.n, stv x2.nm, .slice ao2 x2.kids.len cap2, .int .i64 x2.a, .int .i64 x4.k, .int .i64 x4.n, stv x4.nm, .slice ao4 x4.kids.len cap4, .int .i64 x4.a, .int .i64 x6.k, .int .i64 x6.n, stv x6.nm, .slice ao6 x6.kids.len cap6, .int .i64 x6.a].toArray 25) _ (lt_of_block Z7)).trans Z7
              have KE := KF.set5 (b := w.heap.size) (by omega) (.int .i64 19) (.int .i64 0) (stv []) (.slice (some ⟨w7.heap.size, 0, none⟩) 3 3) (.int .i64 a0)
              have RE := RF.set5 (b := w.heap.size) (by omega) (.int .i64 19) (.int .i64 0) (stv []) (.slice (some ⟨w7.heap.size, 0, none⟩) 3 3) (.int .i64 a0)
              have ZE := set5k (.int .i64 19) (.int .i64 0) (stv []) (.slice (some ⟨w7.heap.size, 0, none⟩) 3 3) (.int .i64 a0) ZF
              have SE : Sl _ (Nw w.heap.size) _ _ := (NS.set5 (b := w.heap.size) (by omega) (.int .i64 19) (.int .i64 0) (stv []) (.slice (some ⟨w7.heap.size, 0, none⟩) 3 3) (.int .i64 a0)).low (by omega)
              obtain ⟨z0, z1, z2, z3, z4, zf⟩ := box5 ZF
              obtain ⟨u0, u1, u2, u3, u4, -⟩ := box5 ZE
              obtain ⟨y00, y01, y02, y03, y04, y0f⟩ := box5 Y2_7
              obtain ⟨y10, y11, y12, y13, y14, y1f⟩ := box5 Y4_7
              obtain ⟨y20, y21, y22, y23, y24, y2f⟩ := box5 Y6_7
              have FIN : Hid (W = .ok ⟨19, 0, [], a0, (((one x2).snoc x4).snoc x6)⟩ t6) := by show W = _; rw [HW.out]; simp only [choiceR, hr1, hr2, hr3, hr4, hr5, hr6, Rs.bind]
              clear HW ZE ZF KF RF NS K7 Z7 h7 T7 Y2_7 Y4_7 Y6_7 S2a_7 S4a_7 S6a_7
              go_wp2
              exact bodyPost_ret (v := exV ⟨19, 0, [], a0, (((one x2).snoc x4).snoc x6)⟩ (some ⟨w7.heap.size, 0, none⟩) 3) (by simp [results, Tryz.results144, go_sem, u0, u1, u2, u3, u4, exV]; rfl) rfl (by rw [FIN.out]; exact ⟨_, _, rfl, SE, RE, KE⟩)
end Go.Proofs.YtafnlhnenmpfoaaGreatDoor
