/- The text of a tree, if it is right: written, Print, Right. -/
import Derived.Test.YtojleoionpnjpaaGreatDoorAccA
import Derived.Laws.BytesArg
namespace Go.Proofs.YtojleoionpnjpaaGreatDoor
open Go.ChangeShapes Go.WideShapes Go.ChangeAt Go.RowKit
set_option linter.unusedVariables false
set_option linter.unusedSimpArgs false

/-- A tree in memory. -/
abbrev SlT (w : World) (f : Fs) (ao : Option Addr) : Prop := Sl w (fun _ => True) f ao
theorem SlT.below {w w' : World} {f : Fs} {ao : Option Addr} (h : SlT w f ao) (b : Below w.heap.size w w') : SlT w' f ao := h.mono (fun i _ hl => b.block i hl) b.size (fun _ h _ => h)
theorem SlT.nf {w : World} {f : Fs} {ao : Option Addr} {fb : Nat} (h : SlT w f ao) (hb : w.heap.size ≤ fb) : Sl w (Nf fb) f ao := h.mono (fun i _ hl => rfl) (Nat.le_refl _) (fun i _ hl => by show i ≠ fb; omega)
theorem Sl.all {P : Nat → Prop} {w : World} {f : Fs} {ao : Option Addr} (h : Sl w P f ao) : SlT w f ao := h.mono (fun i _ hl => rfl) (Nat.le_refl _) (fun _ _ _ => trivial)
/-- All that lies fast. -/
structure FixT (w : World) : Prop where
  fx : Fix w
  p : P10 w
theorem FixT.below {w w' : World} (h : FixT w) (b : Below w.heap.size w w') : FixT w' := ⟨h.fx.below b, h.p.below b⟩
theorem Fix.k {w : World} (h : Fix w) {fb : Nat} (hb : w.heap.size ≤ fb) : FixK fb w :=
  ⟨h, Nat.lt_of_lt_of_le h.wd.lt hb, Nat.lt_of_lt_of_le h.tb.1.lt hb, Nat.lt_of_lt_of_le h.tb.2.1.lt hb, Nat.lt_of_lt_of_le h.tb.2.2.lt hb⟩
theorem p10_lt {w : World} (h : P10 w) : 6 < w.heap.size := (p10_blk h (w' := w) (fun _ => rfl)).2
/-- The bytes of a row, as a text. -/
theorem row_text {w : World} {o : Nat → Nat} {i : Nat} {v : Value} {l : List UInt8} (h : Row w o i 5 1 v l.length (byL l)) :
    (convert 87 9 v).run Tryz.prog w = .ok (stv l) w := by
  rcases Nat.eq_zero_or_pos l.length with h0 | h0
  · obtain rfl : l = [] := List.length_eq_zero_iff.1 h0
    obtain ⟨ao, cap, rfl⟩ := h.form
    cases ao with
    | none => exact run_convert_bytes_nil (P := Tryz.prog) w 87 5 Tryz.underlying87 Tryz.underlying5 _ _ 9 Tryz.underlying9
    | some a => exact run_convert_bytes_back w 87 9 5 a cap [] Tryz.underlying87 Tryz.underlying5 Tryz.underlying9 (fun j hj => by simp at hj)
  · obtain ⟨g, cap, rfl, -, -, -, -, hc, -⟩ := h.pos h0
    refine run_convert_bytes_back w 87 9 5 ⟨g, 0, none⟩ cap l Tryz.underlying87 Tryz.underlying5 Tryz.underlying9 (fun j hj => ?_)
    have := hc j (by omega)
    rw [show (⟨g, 0, none⟩ : Addr).add j = ⟨g, j, none⟩ by simp [Addr.add]; intro h; exact h.symm, this]
    simp [byL, hj]
/-- What written answers. -/
def PostT (w : World) (r : Option (List UInt8)) (x : Ending) (w' : World) : Prop := x = .returned (.tuple #[stv (r.getD []), .bool r.isSome]) ∧ Below w.heap.size w w'
set_option maxRecDepth 100000 in
set_option maxHeartbeats 1000000 in
theorem written_r (e : Ex) (ao : Option Addr) (cap : Nat) (w : World) (hf : e.fit) (FX : FixT w) (S : SlT w e.kids ao) :
    Calls Tryz.prog 25 #[exV e ao cap] w (PostT w (writA e)) := by
  obtain ⟨W, hW⟩ : ∃ W, W = writA e := ⟨_, rfl⟩
  rw [← hW]
  have HW : Hid (W = writA e) := hW
  clear hW
  have B0 : Below w.heap.size w (w.alloc (.cells #[.int .i64 e.k, .int .i64 e.n, stv e.nm, .slice ao e.kids.len cap, .int .i64 e.a] 25)) := (Below.refl _ w).alloc (Nat.le_refl _) _
  have E0 : (w.alloc (.cells #[.int .i64 e.k, .int .i64 e.n, stv e.nm, .slice ao e.kids.len cap, .int .i64 e.a] 25)).heap[w.heap.size]? = some (.cells #[.int .i64 e.k, .int .i64 e.n, stv e.nm, .slice ao e.kids.len cap, .int .i64 e.a] 25) := heap_alloc_new w _
  have S0 := S.below B0
  have FX0 := FX.below B0
  rw [exV_out]
  go_enter Tryz.func25, Tryz.ntmps25
  go_upto_region 1 with fail
  generalize w.alloc (.cells #[.int .i64 e.k, .int .i64 e.n, stv e.nm, .slice ao e.kids.len cap, .int .i64 e.a] 25) = w0 at *
  obtain ⟨bx, hbx⟩ : ∃ bx, bx = w.heap.size := ⟨_, rfl⟩
  rw [← hbx] at E0 B0 ⊢
  have HB : Hid (bx = w.heap.size) := hbx
  clear hbx
  obtain ⟨p0, p1, p2, p3, p4, pf⟩ := box5 E0
  have c1 := isSet_r e.k e.n e.nm ao e.kids.len cap e.a w0
  go_wp2_with fail
  refine c1.mono ?_
  rintro x w1 ⟨rfl, b1⟩
  clear c1 p0 p1 p2 p3 p4 pf
  have l0 := lt_of_block E0
  have B1 := B0.trans (b1.mono (by omega))
  have E1 := (b1.block _ l0).trans E0
  have S1 := S0.below b1
  have FX1 := FX0.below b1
  clear b1 B0 E0 S0 FX0 l0
  cases hset : isSetK e.k with
  | true =>
    have FIN : Hid (W = none) := by show W = _; rw [HW.out]; simp [writA, hset]
    clear HW
    go_wp2
    go_ret2
    rw [FIN.out]
    exact ⟨rfl, by rw [← HB.out]; exact B1⟩
  | false =>
  have b2 : Below w1.heap.size w1 (w1.alloc (.cells #[.int .i64 0] 93)) := (Below.refl _ w1).alloc (Nat.le_refl _) _
  have k2 : Keep w1.heap.size w1 (w1.alloc (.cells #[.int .i64 0] 93)) := (Keep.refl _ w1).alloc _
  have F2 : (w1.alloc (.cells #[.int .i64 0] 93)).heap[w1.heap.size]? = some (.cells #[.int .i64 ((0 : Nat) : Int)] 93 (0, 0)) := heap_alloc_new w1 _
  have c2 := holds_ok (e.kids.size + 1) e ao cap w1.heap.size 0 _ (by omega) hf.nm hf.sh hf.len (by omega) ((FX1.fx.k (Nat.le_refl _)).keep k2) ((SlT.nf S1 (Nat.le_refl _)).keepF k2) F2
  rw [exV_out] at c2
  have B2 := B1.trans (b2.mono (by have := lt_of_block E1; omega))
  have E2 := (b2.block _ (lt_of_block E1)).trans E1
  have S2 := SlT.below S1 b2
  have FX2 := FX1.below b2
  have hlt1 := lt_of_block E1
  have hfb := lt_of_block F2
  obtain ⟨p0, p1, p2, p3, p4, pf⟩ := box5 E1
  have HS : Hid (isSetK e.k = false) := hset
  clear hset
  go_wp2_with fail
  refine c2.mono ?_
  rintro x w3 hP
  clear c2 p0 p1 p2 p3 p4 pf F2 k2 E1 S1 FX1 B1
  generalize w1.alloc (.cells #[.int .i64 0] 93) = w2 at *
  cases hr : hE e 0 with
  | none =>
    rw [hr] at hP
    obtain ⟨rfl, k3⟩ := hP
    have B3 : Below bx w w3 := B2.trans (k3.below (by omega) hfb)
    have FIN : Hid (W = none) := by show W = _; rw [HW.out]; simp [writA, HS.out, hr]
    clear HW hr
    go_wp2
    go_ret2
    rw [FIN.out]
    exact ⟨rfl, by rw [← HB.out]; exact B3⟩
  | some c =>
  rw [hr] at hP
  obtain ⟨rfl, F3, k3⟩ := hP
  obtain ⟨hok, hc1, hc2⟩ := hE_ok hf hr
  have B3 : Below bx w w3 := B2.trans (k3.below (by omega) hfb)
  have E3 := k3.blk E2 (by omega)
  have S3 : SlT w3 e.kids ao := SlT.below S (by rw [← HB.out]; exact B3)
  have FX3 : FixT w3 := FX.below (by rw [← HB.out]; exact B3)
  obtain ⟨w4, hw4⟩ : ∃ w4, w4 = w3.alloc (.cells #[.slice none 0 0, .int .i64 0, .int .i64 0, .int .i64 0, .int .i64 0] 98) := ⟨_, rfl⟩
  obtain ⟨o4, ho4⟩ : ∃ o4 : Nat → Nat, o4 = fun k => if k = w3.heap.size then 1 else 0 := ⟨_, rfl⟩
  have b4 : Below w3.heap.size w3 w4 := by rw [hw4]; exact (Below.refl _ w3).alloc (Nat.le_refl _) _
  have L4 : ∀ k, k < w3.heap.size → o4 k = 0 := fun k hk => by rw [ho4]; simp only; rw [if_neg (by omega)]
  have l3 := lt_of_block E3
  have E4 : Blk w4 o4 0 bx (.cells #[.int .i64 e.k, .int .i64 e.n, stv e.nm, .slice ao e.kids.len cap, .int .i64 e.a] 25) := ⟨(b4.block _ l3).trans E3, L4 _ l3⟩
  have FX4 : FixW o4 w4 := by
    have h := FX3.below b4
    exact ⟨h.fx.tb.1, h.fx.tb.2.1, h.fx.tb.2.2, h.p, L4 _ FX3.fx.tb.1.lt, L4 _ FX3.fx.tb.2.1.lt, L4 _ FX3.fx.tb.2.2.lt, L4 _ (p10_lt FX3.p)⟩
  have S4 : Sl w4 (L0 o4) e.kids ao := S3.mono (fun i _ hl => b4.block i hl) b4.size (fun i _ hl => L4 i hl)
  have H4 : WrS w4 o4 w3.heap.size s0 := ⟨.slice none 0 0, ⟨by rw [hw4]; exact heap_alloc_new w3 _, by rw [ho4]; simp⟩, Row.nil _ _ _ _ _⟩
  have B4 : Below bx w w4 := B3.trans (b4.mono (by omega))
  have LB : Hid (∀ k, k < bx → o4 k = 0) := fun k hk => L4 k (by omega)
  have hfit : Fit (e.kids.size + 1) s0 := ⟨by simp only [s0, List.length_nil]; omega, by simp only [s0]; omega, by simp only [s0]; omega, by simp only [s0]; omega, by simp only [s0]; omega⟩
  have c4 := (part_both (e.kids.size + 1)).1 e ao cap 0 w3.heap.size s0 w4 o4 (by omega) hok (by omega) hfit FX4 S4 H4
  rw [exV_out] at c4
  have HR : Hid (∃ c, hE e 0 = some c) := ⟨c, hr⟩
  clear hr hok hc1 hc2 FX3 S3 b4 L4 E3 B3 F3 k3 H4 FX4 S4 E2 S2 FX2 B2 b2 hlt1 hfb ho4
  go_upto_region 4 with fail
  rw [← hw4]
  generalize w3.heap.size = wb at *
  clear hw4
  obtain ⟨p0, p1, p2, p3, p4, pf⟩ := box5 E4.1
  go_wp2_with fail
  refine c4.mono ?_
  rintro x w5 ⟨rfl, o5, H5, st5⟩
  clear c4 p0 p1 p2 p3 p4 pf
  have B5 : Below bx w w5 := ⟨st5.os.trans B4.os, st5.tape.trans B4.tape, st5.output.trans B4.output, Nat.le_trans B4.size st5.size, fun k hk => (st5.block k (by have := E4.lt; omega) (by rw [LB.out k hk]; simp [I12])).trans (B4.block k hk)⟩
  obtain ⟨s, hs⟩ : ∃ s, s = wEx e 0 s0 := ⟨_, rfl⟩
  have HSt : Hid (s = wEx e 0 s0) := hs
  rw [← hs] at H5
  clear hs E4 B4 LB st5
  obtain ⟨v5, hb5, hr5⟩ := H5
  obtain ⟨a5, c5, rfl⟩ := hr5.form
  obtain ⟨q0, q1, q2, q3, q4, qf⟩ := Blk.cells5 hb5
  have hconv := row_text hr5
  obtain ⟨tl, htl⟩ : ∃ tl, tl = s.t.length := ⟨_, rfl⟩
  have HT : Hid (tl = s.t.length) := htl
  rw [← htl] at q0 hconv
  clear htl hb5 hr5
  by_cases g1 : 2000 < tl
  · have g1I : (2000 : Int) < (tl : Int) := by omega
    have FIN : Hid (W = none) := by
      obtain ⟨c, hr⟩ := HR.out
      show W = _
      rw [HW.out]
      have : roomB (wEx e 0 s0) = false := by rw [← HSt.out]; simp [roomB, ← HT.out, g1]
      simp [writA, HS.out, hr, this]
    clear HW HR HSt HT
    go_wp2
    go_ret2
    rw [FIN.out]
    exact ⟨rfl, by rw [← HB.out]; exact B5⟩
  have g1I : ¬ (2000 : Int) < (tl : Int) := by omega
  by_cases g2 : 64 < s.m
  · have g2I : (64 : Int) < (s.m : Int) := by omega
    have FIN : Hid (W = none) := by
      obtain ⟨c, hr⟩ := HR.out
      show W = _
      rw [HW.out]
      have : roomB (wEx e 0 s0) = false := by rw [← HSt.out]; simp [roomB, g2]
      simp [writA, HS.out, hr, this]
    clear HW HR HSt HT
    go_wp2
    go_ret2
    rw [FIN.out]
    exact ⟨rfl, by rw [← HB.out]; exact B5⟩
  have g2I : ¬ (64 : Int) < (s.m : Int) := by omega
  by_cases g3 : 4 < s.n
  · have g3I : (4 : Int) < (s.n : Int) := by omega
    have FIN : Hid (W = none) := by
      obtain ⟨c, hr⟩ := HR.out
      show W = _
      rw [HW.out]
      have : roomB (wEx e 0 s0) = false := by rw [← HSt.out]; simp [roomB, g3]
      simp [writA, HS.out, hr, this]
    clear HW HR HSt HT
    go_wp2
    go_ret2
    rw [FIN.out]
    exact ⟨rfl, by rw [← HB.out]; exact B5⟩
  have g3I : ¬ (4 : Int) < (s.n : Int) := by omega
  have FIN : Hid (W = some s.t) := by
    obtain ⟨c, hr⟩ := HR.out
    show W = _
    rw [HW.out]
    have : roomB (wEx e 0 s0) = true := by rw [← HSt.out]; simp [roomB, ← HT.out]; omega
    rw [show writA e = some (wEx e 0 s0).t by simp [writA, HS.out, hr, this], HSt.out]
  clear HW HR HSt HT
  go_wp2
  go_ret2
  rw [FIN.out]
  exact ⟨rfl, by rw [← HB.out]; exact B5⟩
set_option maxRecDepth 100000 in
theorem right_r (e : Ex) (ao : Option Addr) (cap : Nat) (w : World) (hf : e.fit) (FX : FixT w) (S : SlT w e.kids ao) :
    Calls Tryz.prog 21 #[exV e ao cap] w fun x w' => x = .returned (.bool (writA e).isSome) ∧ Below w.heap.size w w' := by
  have B0 : Below w.heap.size w (w.alloc (.cells #[.int .i64 e.k, .int .i64 e.n, stv e.nm, .slice ao e.kids.len cap, .int .i64 e.a] 25)) := (Below.refl _ w).alloc (Nat.le_refl _) _
  have hs0 : w.heap.size ≤ (w.alloc (.cells #[.int .i64 e.k, .int .i64 e.n, stv e.nm, .slice ao e.kids.len cap, .int .i64 e.a] 25)).heap.size := B0.size
  have c1 := written_r e ao cap _ hf (FX.below B0) (SlT.below S B0)
  rw [exV_out] at c1 ⊢
  generalize writA e = W at *
  go_enter Tryz.func21, Tryz.ntmps21
  go_wp2_with fail
  refine c1.mono ?_
  rintro x w1 ⟨rfl, b1⟩
  have B1 := B0.trans (b1.mono hs0)
  clear c1 b1 B0
  go_wp2
  go_ret
  exact ⟨rfl, B1⟩
/-- What Print answers. -/
def PostP (w : World) (r : Option (List UInt8)) (x : Ending) (w' : World) : Prop := x = .returned (.tuple #[stv (r.getD []), .int .i64 (if r.isSome then 0 else 122)]) ∧ Below w.heap.size w w'
end Go.Proofs.YtojleoionpnjpaaGreatDoor
