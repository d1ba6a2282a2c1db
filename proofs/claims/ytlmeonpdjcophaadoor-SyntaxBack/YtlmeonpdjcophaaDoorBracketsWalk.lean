/- The law SyntaxBrackets, walked. -/
import Derived.Test.YtlmeonpdjcophaaDoorAwaA
import Derived.Test.YtlmeonpdjcophaaDoorBadM
namespace Go.Proofs.YtlmeonpdjcophaaDoor
open Go.ChangeShapes Go.WideShapes Go.ChangeAt Go.RowKit
set_option linter.unusedVariables false
set_option linter.unusedSimpArgs false

/-- What Parse answers, in one form. -/
def RsIs (R : Rs Ex) (Y : Ex) (er a : Nat) : Prop :=
  match R with
  | ⟨none⟩ => False
  | ⟨some (.inl (e, p))⟩ => Y = noEx ∧ er = e ∧ a = p
  | ⟨some (.inr (x, _))⟩ => Y = x ∧ er = 0 ∧ a = 0
theorem PostR.any {w w' : World} {R : Rs Ex} {e : Ending} (h : PostR w R e w') : ∃ Y ao cap er a, e = .returned (.tuple #[exV Y ao cap, .int .i64 (er : Nat), .int .i64 (a : Nat)]) ∧ Sl w' (Nw w.heap.size) Y.kids ao ∧ Below w.heap.size w w' ∧ RsIs R Y er a := by
  cases R using Rs.on with
  | out => exact h.elim
  | bad er a =>
    obtain ⟨rfl, b⟩ := h
    exact ⟨noEx, none, 0, er, a, rfl, .inl rfl, b, rfl, rfl, rfl⟩
  | ok x t =>
    obtain ⟨ao, cap, rfl, S, b⟩ := h
    exact ⟨x, ao, cap, 0, 0, rfl, S, b, rfl, rfl, rfl⟩
theorem par_size (s : ByteArray) : ((⟨#[40]⟩ : ByteArray) ++ s ++ ⟨#[41]⟩).size = s.size + 2 := by
  rw [ByteArray.size_append, ByteArray.size_append]
  show 1 + s.size + 1 = _
  omega
theorem par_list (s : ByteArray) : ((⟨#[40]⟩ : ByteArray) ++ s ++ ⟨#[41]⟩).data.toList = 40 :: (s.data.toList ++ [41]) := by
  simp
set_option maxRecDepth 100000 in
set_option maxHeartbeats 2000000 in
theorem brackets_walk (s : ByteArray) (w : World) (hs : s.size ≤ 140737488351232) (FX : FixA w) :
    Calls Tryd.prog 5 #[.string s] w fun e w' => e = .returned (.bool true) ∧ Below w.heap.size w w' := by
  have c1 := awake_r w FX
  go_enter Tryd.func5, Tryd.ntmps5
  go_wp2_with fail
  refine c1.mono ?_
  rintro e w1 ⟨rfl, b1⟩
  clear c1
  have FX1 := FX.below b1
  have c2 := parse_a s w1 FX1 (by unfold maxLen; omega)
  go_wp2_with fail
  refine c2.mono ?_
  rintro e w2 hP
  clear c2
  obtain ⟨x, ax, cx, er, at1, rfl, S2, b2, R1⟩ := hP.any
  clear hP
  have B2 := b1.trans (b2.mono b1.size)
  have HR1 : Hid (RsIs (parseA s.data.toList) x er at1) := R1
  have S2 := Sl.all S2
  have FX2 := FX1.below b2
  have b3 : Below w2.heap.size w2 (w2.alloc (.cells #[.int .i64 x.k, .int .i64 x.n, stv x.nm, .slice ax x.kids.len cx, .int .i64 x.a] 24)) := (Below.refl _ w2).alloc (Nat.le_refl _) _
  have X3 : (w2.alloc (.cells #[.int .i64 x.k, .int .i64 x.n, stv x.nm, .slice ax x.kids.len cx, .int .i64 x.a] 24)).heap[w2.heap.size]? = some (.cells #[.int .i64 x.k, .int .i64 x.n, stv x.nm, .slice ax x.kids.len cx, .int .i64 x.a] 24) := heap_alloc_new w2 _
  have B3 := B2.trans (b3.mono B2.size)
  have FX3 := FX2.below b3
  have S3 := SlT.below S2 b3
  rw [exV_out]
  go_upto_region 3 with fail
  generalize w2.alloc (.cells #[.int .i64 x.k, .int .i64 x.n, stv x.nm, .slice ax x.kids.len cx, .int .i64 x.a] 24) = w3 at *
  generalize w2.heap.size = bx at *
  clear b1 b2 b3 B2 FX1 FX2 S2 R1
  have c4 := parse_a (⟨#[40]⟩ ++ s ++ ⟨#[41]⟩) w3 FX3 (by rw [par_size]; unfold maxLen; omega)
  go_wp2_with fail
  refine c4.mono ?_
  rintro e w4 hP
  clear c4
  obtain ⟨y, ay, cy, er2, at2, rfl, S4, b4, R2⟩ := hP.any
  clear hP
  rw [par_list] at R2
  have HR2 : Hid (RsIs (parseA (40 :: (s.data.toList ++ [41]))) y er2 at2) := R2
  have B4 := B3.trans (b4.mono B3.size)
  have T4 := Sl.all S4
  have X4 := (b4.block _ (lt_of_block X3)).trans X3
  have S4x := SlT.below S3 b4
  have b5 : Below w4.heap.size w4 (w4.alloc (.cells #[.int .i64 y.k, .int .i64 y.n, stv y.nm, .slice ay y.kids.len cy, .int .i64 y.a] 24)) := (Below.refl _ w4).alloc (Nat.le_refl _) _
  have Y5 : (w4.alloc (.cells #[.int .i64 y.k, .int .i64 y.n, stv y.nm, .slice ay y.kids.len cy, .int .i64 y.a] 24)).heap[w4.heap.size]? = some (.cells #[.int .i64 y.k, .int .i64 y.n, stv y.nm, .slice ay y.kids.len cy, .int .i64 y.a] 24) := heap_alloc_new w4 _
  have X5 := (b5.block _ (lt_of_block X4)).trans X4
  have B5 := B4.trans (b5.mono B4.size)
  have T5 := SlT.below T4 b5
  have S5 := SlT.below S4x b5
  rw [exV_out]
  go_upto_region 4 with fail
  generalize w4.alloc (.cells #[.int .i64 y.k, .int .i64 y.n, stv y.nm, .slice ay y.kids.len cy, .int .i64 y.a] 24) = w5 at *
  generalize w4.heap.size = by5 at *
  clear b4 b5 B3 B4 FX3 S3 S4 S4x T4 X3 X4 R2
  have hdl : Hid (s.data.toList.length = s.size) := data_len s
  cases h1 : parseA s.data.toList using Rs.on with
  | out => have h := HR1.out; rw [h1] at h; exact h.elim
  | bad e1 p1 =>
    have h := HR1.out
    rw [h1] at h
    obtain ⟨-, rfl, -⟩ := h
    have hne := parse_bad h1
    have hI : ((er : Int) != 0) = true := by simp; omega
    have hI2 : ¬ (er : Int) = 0 := by omega
    clear HR1 HR2 h1 hne X5 Y5 T5 S5
    go_wp2
    go_ret
    exact ⟨rfl, B5⟩
  | ok x1 t1 =>
  have h := HR1.out
  rw [h1] at h
  obtain ⟨rfl, rfl, rfl⟩ := h
  have HP1 : Hid (parseA s.data.toList = .ok x t1) := h1
  clear HR1 h1
  by_cases hl : 2000 < s.size + 2
  · have hI : (2000 : Int) < (s.size : Int) + 2 := by omega
    clear HR2 X5 Y5 T5 S5
    go_wp2
    go_ret
    exact ⟨rfl, B5⟩
  have hI : ¬ (2000 : Int) < (s.size : Int) + 2 := by omega
  have hpp := parse_par HP1.out (by rw [hdl.out]; omega)
  rcases hpp with ⟨t2, h2⟩ | ⟨a2, h2, ha2⟩
  · have h := HR2.out
    rw [h2] at h
    obtain ⟨hy, rfl, rfl⟩ := h
    have HY : Hid (y = x.mv 1) := hy
    have hok := parse_okT HP1.out
    have hoy := parse_okT h2
    rw [← hy] at hoy
    clear HR2 h2 hy HP1
    obtain ⟨p0, p1, p2, p3, p4, pf⟩ := box5 X5
    obtain ⟨q0, q1, q2, q3, q4, qf⟩ := box5 Y5
    have lx := lt_of_block X5
    have ly := lt_of_block Y5
    have k0 : w5.cell? ⟨by5, 0, none⟩ = some (.int .i64 y.k) ∧ w5.cell? ⟨by5, 1, none⟩ = some (.int .i64 y.n) ∧ w5.cell? ⟨by5, 2, none⟩ = some (stv y.nm) ∧ w5.cell? ⟨by5, 3, none⟩ = some (.slice ay y.kids.len cy) ∧ w5.cell? ⟨by5, 4, none⟩ = some (.int .i64 y.a) ∧ w5.cell? ⟨bx, 0, none⟩ = some (.int .i64 x.k) ∧ w5.cell? ⟨bx, 1, none⟩ = some (.int .i64 x.n) ∧ w5.cell? ⟨bx, 2, none⟩ = some (stv x.nm) ∧ w5.cell? ⟨bx, 3, none⟩ = some (.slice ax x.kids.len cx) ∧ w5.cell? ⟨bx, 4, none⟩ = some (.int .i64 x.a) := ⟨q0, q1, q2, q3, q4, p0, p1, p2, p3, p4⟩
    have k1 : w5.drew.cell? ⟨by5, 0, none⟩ = some (.int .i64 y.k) ∧ w5.drew.cell? ⟨by5, 1, none⟩ = some (.int .i64 y.n) ∧ w5.drew.cell? ⟨by5, 2, none⟩ = some (stv y.nm) ∧ w5.drew.cell? ⟨by5, 3, none⟩ = some (.slice ay y.kids.len cy) ∧ w5.drew.cell? ⟨by5, 4, none⟩ = some (.int .i64 y.a) ∧ w5.drew.cell? ⟨bx, 0, none⟩ = some (.int .i64 x.k) ∧ w5.drew.cell? ⟨bx, 1, none⟩ = some (.int .i64 x.n) ∧ w5.drew.cell? ⟨bx, 2, none⟩ = some (stv x.nm) ∧ w5.drew.cell? ⟨bx, 3, none⟩ = some (.slice ax x.kids.len cx) ∧ w5.drew.cell? ⟨bx, 4, none⟩ = some (.int .i64 x.a) := k0
    have c6 := moves_ok (x.kids.size + 1) x ax cx 1 w5.drew (by omega) hok.fit.len hok.fit.sh hok.a0 (by have := hok.a1; omega) hok.plc (by omega) (SlA.below S5 (Below.refl _ w5).drew)
    rw [exV_out] at c6
    clear X5 Y5
    go_wp2
    go_region_held (fun wx => wx.cell? ⟨by5, 0, none⟩ = some (.int .i64 y.k) ∧ wx.cell? ⟨by5, 1, none⟩ = some (.int .i64 y.n) ∧ wx.cell? ⟨by5, 2, none⟩ = some (stv y.nm) ∧ wx.cell? ⟨by5, 3, none⟩ = some (.slice ay y.kids.len cy) ∧ wx.cell? ⟨by5, 4, none⟩ = some (.int .i64 y.a) ∧ wx.cell? ⟨bx, 0, none⟩ = some (.int .i64 x.k) ∧ wx.cell? ⟨bx, 1, none⟩ = some (.int .i64 x.n) ∧ wx.cell? ⟨bx, 2, none⟩ = some (stv x.nm) ∧ wx.cell? ⟨bx, 3, none⟩ = some (.slice ax x.kids.len cx) ∧ wx.cell? ⟨bx, 4, none⟩ = some (.int .i64 x.a)) (first | (with_reducible exact k7) | (with_reducible exact k6) | (with_reducible exact k1) | (with_reducible exact k0)) ((first
      | (go_at_call 16; refine c6.mono ?_; rintro e w6 ⟨am, cm, rfl, S6, b6⟩; have k6 : w6.cell? ⟨by5, 0, none⟩ = some (.int .i64 y.k) ∧ w6.cell? ⟨by5, 1, none⟩ = some (.int .i64 y.n) ∧ w6.cell? ⟨by5, 2, none⟩ = some (stv y.nm) ∧ w6.cell? ⟨by5, 3, none⟩ = some (.slice ay y.kids.len cy) ∧ w6.cell? ⟨by5, 4, none⟩ = some (.int .i64 y.a) ∧ w6.cell? ⟨bx, 0, none⟩ = some (.int .i64 x.k) ∧ w6.cell? ⟨bx, 1, none⟩ = some (.int .i64 x.n) ∧ w6.cell? ⟨bx, 2, none⟩ = some (stv x.nm) ∧ w6.cell? ⟨bx, 3, none⟩ = some (.slice ax x.kids.len cx) ∧ w6.cell? ⟨bx, 4, none⟩ = some (.int .i64 x.a) := ⟨(b6.cell (p := ⟨by5, 0, none⟩) ly).trans q0, (b6.cell (p := ⟨by5, 1, none⟩) ly).trans q1, (b6.cell (p := ⟨by5, 2, none⟩) ly).trans q2, (b6.cell (p := ⟨by5, 3, none⟩) ly).trans q3, (b6.cell (p := ⟨by5, 4, none⟩) ly).trans q4, (b6.cell (p := ⟨bx, 0, none⟩) lx).trans p0, (b6.cell (p := ⟨bx, 1, none⟩) lx).trans p1, (b6.cell (p := ⟨bx, 2, none⟩) lx).trans p2, (b6.cell (p := ⟨bx, 3, none⟩) lx).trans p3, (b6.cell (p := ⟨bx, 4, none⟩) lx).trans p4⟩; rw [← HY.out, exV_out]; rw [← HY.out] at S6; have ly6 := Nat.lt_of_lt_of_le ly b6.size; have lx6 := Nat.lt_of_lt_of_le lx b6.size; have c7 := whole_ok (y.kids.size + 1) y ay am cy cm w6 (Nat.lt_succ_self _) hoy.fit.len hoy.fit.sh (SlA.below (SlA.below T5 (Below.refl _ w5).drew) b6) (Sl.all S6); rw [exV_out, exV_out] at c7; have B6 := (B5.drew).trans (b6.mono B5.size))
      | (go_at_call 15; refine c7.mono ?_; rintro e w7 ⟨rfl, b7⟩; have k7 : w7.cell? ⟨by5, 0, none⟩ = some (.int .i64 y.k) ∧ w7.cell? ⟨by5, 1, none⟩ = some (.int .i64 y.n) ∧ w7.cell? ⟨by5, 2, none⟩ = some (stv y.nm) ∧ w7.cell? ⟨by5, 3, none⟩ = some (.slice ay y.kids.len cy) ∧ w7.cell? ⟨by5, 4, none⟩ = some (.int .i64 y.a) ∧ w7.cell? ⟨bx, 0, none⟩ = some (.int .i64 x.k) ∧ w7.cell? ⟨bx, 1, none⟩ = some (.int .i64 x.n) ∧ w7.cell? ⟨bx, 2, none⟩ = some (stv x.nm) ∧ w7.cell? ⟨bx, 3, none⟩ = some (.slice ax x.kids.len cx) ∧ w7.cell? ⟨bx, 4, none⟩ = some (.int .i64 x.a) := ⟨(b7.cell (p := ⟨by5, 0, none⟩) ly6).trans k6.1, (b7.cell (p := ⟨by5, 1, none⟩) ly6).trans k6.2.1, (b7.cell (p := ⟨by5, 2, none⟩) ly6).trans k6.2.2.1, (b7.cell (p := ⟨by5, 3, none⟩) ly6).trans k6.2.2.2.1, (b7.cell (p := ⟨by5, 4, none⟩) ly6).trans k6.2.2.2.2.1, (b7.cell (p := ⟨bx, 0, none⟩) lx6).trans k6.2.2.2.2.2.1, (b7.cell (p := ⟨bx, 1, none⟩) lx6).trans k6.2.2.2.2.2.2.1, (b7.cell (p := ⟨bx, 2, none⟩) lx6).trans k6.2.2.2.2.2.2.2.1, (b7.cell (p := ⟨bx, 3, none⟩) lx6).trans k6.2.2.2.2.2.2.2.2.1, (b7.cell (p := ⟨bx, 4, none⟩) lx6).trans k6.2.2.2.2.2.2.2.2.2⟩; have B7 := B6.trans (b7.mono B6.size))))
    clear k0 k1 k6 k7 p0 p1 p2 p3 p4 pf q0 q1 q2 q3 q4 qf
    go_wp2
    go_ret
    exact ⟨rfl, B7⟩
  · have h := HR2.out
    rw [h2] at h
    obtain ⟨-, rfl, rfl⟩ := h
    have hJ : (0 : Int) < (at2 : Int) := by omega
    clear HR2 h2 X5 Y5 T5 S5 HP1
    go_wp2
    go_ret
    exact ⟨rfl, B5⟩
end Go.Proofs.YtlmeonpdjcophaaDoor
