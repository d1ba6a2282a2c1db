/- The law TypeSwaps, walked. (mkswaps.py writes this text.) -/
import Derived.Test.YtafnlhnenmpfoaaGreatDoorWrqL
namespace Go.Proofs.YtafnlhnenmpfoaaGreatDoor
open Go.ChangeShapes Go.WideShapes Go.ChangeAt Go.RowKit
set_option linter.unusedVariables false
set_option linter.unusedSimpArgs false

theorem chk_pos {e : Ex} {k p : Int} (hf : e.fit) (h : typA e = (k, 0, p)) : k ≠ 0 := by
  have h2 := (typA_ok h).1
  have hw : ∃ t, writA e = some t := by
    cases hw : writA e with
    | none => unfold typA at h; rw [hw] at h; simp at h
    | some t => exact ⟨t, rfl⟩
  obtain ⟨t, hw⟩ := hw
  exact chkE_pos (e.kids.size + 1) e [] k (by omega) (writA_ok hf hw).1 h2
theorem new_two_a (w : World) (A B : Obj) : ((w.alloc A).alloc B).drew.heap[w.heap.size]? = some A := (Below.heap_alloc (w.alloc A) B w.heap.size (by simp)).trans (heap_alloc_new w A)
theorem new_two_b (w : World) (A B : Obj) : ((w.alloc A).alloc B).drew.heap[w.heap.size + 1]? = some B := by
  have h := heap_alloc_new (w.alloc A) B
  rw [show (w.alloc A).heap.size = w.heap.size + 1 by simp] at h
  exact h
theorem two_fit {a b : Ex} (kk : Int) (ha : a.fit) (hb : b.fit) : (twoX kk 0 a b).fit :=
  ⟨by show ([] : List UInt8).length ≤ _; simp [maxLen], ⟨ha.nm, ha.len, ha.sh, hb.nm, hb.len, hb.sh, trivial⟩, by show (2 : Nat) ≤ _; omega, by show _ ≤ (0 : Int); omega, by show (0 : Int) ≤ _; omega, ⟨ha.n1, ha.n2, ha.rng, hb.n1, hb.n2, hb.rng, trivial⟩⟩
theorem typ_two {a b : Ex} {t : List UInt8} {ka kb : Int} (kk nd gv : Int) (hw : writA (twoX kk 0 a b) = some t) (ha : chkE a [] = .inr ka) (hb : chkE b [] = .inr kb) (hpa : ka ≠ 0)
    (h : (8 ≤ kk ∧ kk ≤ 12 ∧ nd = 1 ∧ gv = 1) ∨ ((kk = 15 ∨ kk = 16) ∧ nd = 1 ∧ gv = 2) ∨ ((kk = 17 ∨ kk = 18) ∧ nd = 2 ∧ gv = 2) ∨ ((kk = 13 ∨ kk = 14) ∧ nd = ka ∧ gv = 2)) :
    typA (twoX kk 0 a b) = if ka ≠ nd then (0, 131, a.a) else if kb ≠ nd then (0, 131, b.a) else (gv, 0, 0) := by
  unfold typA
  rw [hw]
  simp only
  rw [chk_twoX kk 0 ha hb (by omega) (by omega)]
  have r : ∀ d, d.length ≤ 2 → ruleT kk 0 2 d = if (kk = 13 ∨ kk = 14) then (match d with | [] => 0 | [a] => a | _ => 2) else (if d.length = 2 then gv else nd) := by
    intro d hd
    rcases h with ⟨h1, h2, rfl, rfl⟩ | ⟨h1, rfl, rfl⟩ | ⟨h1, rfl, rfl⟩ | ⟨h1, rfl, rfl⟩
    · have h3 : kk = 8 ∨ kk = 9 ∨ kk = 10 ∨ kk = 11 ∨ kk = 12 := by omega
      rw [if_neg (by omega)]
      rcases h3 with rfl | rfl | rfl | rfl | rfl <;> (rcases d with _ | ⟨x, _ | ⟨y, _ | ⟨z, r⟩⟩⟩ <;> first | rfl | (simp at hd))
    · rw [if_neg (by omega)]
      rcases h1 with rfl | rfl <;> (rcases d with _ | ⟨x, _ | ⟨y, _ | ⟨z, r⟩⟩⟩ <;> first | rfl | (simp at hd))
    · rw [if_neg (by omega)]
      rcases h1 with rfl | rfl <;> (rcases d with _ | ⟨x, _ | ⟨y, _ | ⟨z, r⟩⟩⟩ <;> first | rfl | (simp at hd))
    · rw [if_pos h1]
      rcases h1 with rfl | rfl <;> (rcases d with _ | ⟨x, _ | ⟨y, _ | ⟨z, r⟩⟩⟩ <;> first | rfl | (simp at hd))
  rw [r [] (by simp), r [ka] (by simp), r [ka, kb] (by simp)]
  by_cases h4 : kk = 13 ∨ kk = 14
  · have hnd : nd = ka := by omega
    have hgv : gv = 2 := by omega
    subst hnd
    subst hgv
    rw [if_pos h4, if_pos h4, if_pos h4]
    by_cases hk : kb = nd
    · subst hk
      simp
    · simp [hk, hpa]
  · have hnd : nd ≠ 0 := by omega
    rw [if_neg h4, if_neg h4, if_neg h4]
    by_cases hk : ka = nd
    · subst hk
      by_cases hl : kb = ka
      · subst hl
        simp
      · simp [hl, hnd]
    · simp [hk, hnd]
theorem below_two (w : World) (A B : Obj) : Below w.heap.size w ((w.alloc A).alloc B).drew := (((Below.refl _ w).alloc (Nat.le_refl _) A).alloc (by simp) B).trans ⟨rfl, rfl, rfl, Nat.le_refl _, fun _ _ => rfl⟩
set_option maxRecDepth 100000 in
set_option maxHeartbeats 8000000 in
theorem typeSwaps_walk (a b : Ex) (aoa aob : Option Addr) (capa capb : Nat) (w : World) (hla : a.kids.len ≤ maxLen) (hwa : a.kids.wide) (hfa : a.kids.size ≤ 100000000 → a.fit) (hlb : b.kids.len ≤ maxLen) (hwb : b.kids.wide) (hfb : b.kids.size ≤ 100000000 → b.fit) (Sa' : SlA w a.kids aoa) (Sb' : SlA w b.kids aob) (FX : FixT w) :
    Calls Tryz.prog 6 #[exV a aoa capa, exV b aob capb] w fun x w' => x = .returned (.bool true) ∧ Below w.heap.size w w' := by
  have b0 : Below w.heap.size w (w.alloc (.cells #[.int .i64 a.k, .int .i64 a.n, stv a.nm, .slice aoa a.kids.len capa, .int .i64 a.a] 25)) := (Below.refl _ w).alloc (Nat.le_refl _) _
  have b1 : Below w.heap.size w ((w.alloc (.cells #[.int .i64 a.k, .int .i64 a.n, stv a.nm, .slice aoa a.kids.len capa, .int .i64 a.a] 25)).alloc (.cells #[.int .i64 b.k, .int .i64 b.n, stv b.nm, .slice aob b.kids.len capb, .int .i64 b.a] 25)) := b0.alloc b0.size _
  have Xa : ((w.alloc (.cells #[.int .i64 a.k, .int .i64 a.n, stv a.nm, .slice aoa a.kids.len capa, .int .i64 a.a] 25)).alloc (.cells #[.int .i64 b.k, .int .i64 b.n, stv b.nm, .slice aob b.kids.len capb, .int .i64 b.a] 25)).heap[w.heap.size]? = some (.cells #[.int .i64 a.k, .int .i64 a.n, stv a.nm, .slice aoa a.kids.len capa, .int .i64 a.a] 25) := (Below.heap_alloc _ _ _ (by simp)).trans (heap_alloc_new w _)
  have Xb : ((w.alloc (.cells #[.int .i64 a.k, .int .i64 a.n, stv a.nm, .slice aoa a.kids.len capa, .int .i64 a.a] 25)).alloc (.cells #[.int .i64 b.k, .int .i64 b.n, stv b.nm, .slice aob b.kids.len capb, .int .i64 b.a] 25)).heap[w.heap.size + 1]? = some (.cells #[.int .i64 b.k, .int .i64 b.n, stv b.nm, .slice aob b.kids.len capb, .int .i64 b.a] 25) := by
    have := heap_alloc_new (w.alloc (.cells #[.int .i64 a.k, .int .i64 a.n, stv a.nm, .slice aoa a.kids.len capa, .int .i64 a.a] 25)) (.cells #[.int .i64 b.k, .int .i64 b.n, stv b.nm, .slice aob b.kids.len capb, .int .i64 b.a] 25)
    simpa using this
  have Sa := SlA.below Sa' b1
  have Sb := SlA.below Sb' b1
  have FX0 := FX.below b1
  rw [exV_out, exV_out]
  go_enter Tryz.func6, Tryz.ntmps6
  go_upto_region 1 with fail
  generalize (w.alloc (.cells #[.int .i64 a.k, .int .i64 a.n, stv a.nm, .slice aoa a.kids.len capa, .int .i64 a.a] 25)).alloc (.cells #[.int .i64 b.k, .int .i64 b.n, stv b.nm, .slice aob b.kids.len capb, .int .i64 b.a] 25) = w0 at *
  have HB : Hid (Below w.heap.size w w0) := b1
  have hbx1 : w.heap.size ≤ w0.heap.size := b1.size
  generalize hba : w.heap.size = ba at Xa Xb ⊢
  generalize ba + 1 = bb at Xb ⊢
  clear hba b0 b1 Sa' Sb' FX
  have hxa := lt_of_block Xa
  have hxb := lt_of_block Xb
  have B0 := Below.refl w0.heap.size w0
  obtain ⟨p0, p1, p2, p3, p4, pf⟩ := box5 ((B0.block _ hxa).trans Xa)
  obtain ⟨q0, q1, q2, q3, q4, qf⟩ := box5 ((B0.block _ hxb).trans Xb)
  have c := heavy_r a aoa capa w0 hla hwa Sa
  rw [exV_out] at c
  go_wp2_with fail
  refine c.mono ?_
  rintro x w1 ⟨rfl, bw⟩
  clear c p0 p1 p2 p3 p4 pf q0 q1 q2 q3 q4 qf
  have B1 := B0.trans (bw.mono B0.size)
  clear bw B0
  cases h1 : heavyB a with
  | true =>
    go_wp2
    go_ret
    exact ⟨rfl, HB.out.trans (B1.mono hbx1)⟩
  | false =>
  obtain ⟨p0, p1, p2, p3, p4, pf⟩ := box5 ((B1.block _ hxa).trans Xa)
  obtain ⟨q0, q1, q2, q3, q4, qf⟩ := box5 ((B1.block _ hxb).trans Xb)
  have c := heavy_r b aob capb w1 hlb hwb (SlA.below Sb B1)
  rw [exV_out] at c
  go_wp2_with fail
  refine c.mono ?_
  rintro x w2 ⟨rfl, bw⟩
  clear c p0 p1 p2 p3 p4 pf q0 q1 q2 q3 q4 qf
  have B2 := B1.trans (bw.mono B1.size)
  clear bw B1
  cases h2 : heavyB b with
  | true =>
    go_wp2
    go_ret
    exact ⟨rfl, HB.out.trans (B2.mono hbx1)⟩
  | false =>
  have z1 := light h1
  have z2 := light h2
  have fa := hfa (by omega)
  have fb := hfb (by omega)
  clear h1 h2 hfa hfb
  obtain ⟨p0, p1, p2, p3, p4, pf⟩ := box5 ((B2.block _ hxa).trans Xa)
  obtain ⟨q0, q1, q2, q3, q4, qf⟩ := box5 ((B2.block _ hxb).trans Xb)
  have c := awaket_r w2 (FX0.below B2)
  go_wp2_with fail
  refine c.mono ?_
  rintro x w3 ⟨rfl, bw⟩
  clear c p0 p1 p2 p3 p4 pf q0 q1 q2 q3 q4 qf
  have B3 := B2.trans (bw.mono B2.size)
  clear bw B2
  obtain ⟨ka, era, pa, hTa⟩ : ∃ (k : Int) (er : Nat) (p : Int), typA a = (k, er, p) := ⟨_, _, _, rfl⟩
  obtain ⟨kb, erb, pb, hTb⟩ : ∃ (k : Int) (er : Nat) (p : Int), typA b = (k, er, p) := ⟨_, _, _, rfl⟩
  obtain ⟨p0, p1, p2, p3, p4, pf⟩ := box5 ((B3.block _ hxa).trans Xa)
  obtain ⟨q0, q1, q2, q3, q4, qf⟩ := box5 ((B3.block _ hxb).trans Xb)
  have c := tcheck_r a aoa capa w3 fa (FX0.below B3) (SlA.below Sa B3)
  rw [exV_out, hTa] at c
  go_wp2_with fail
  refine c.mono ?_
  rintro x w4 ⟨rfl, bw⟩
  clear c p0 p1 p2 p3 p4 pf q0 q1 q2 q3 q4 qf
  have B4 := B3.trans (bw.mono B3.size)
  clear bw B3
  simp only [tupT]
  obtain ⟨p0, p1, p2, p3, p4, pf⟩ := box5 ((B4.block _ hxa).trans Xa)
  obtain ⟨q0, q1, q2, q3, q4, qf⟩ := box5 ((B4.block _ hxb).trans Xb)
  have c := tcheck_r b aob capb w4 fb (FX0.below B4) (SlA.below Sb B4)
  rw [exV_out, hTb] at c
  go_wp2_with fail
  refine c.mono ?_
  rintro x w5 ⟨rfl, bw⟩
  clear c p0 p1 p2 p3 p4 pf q0 q1 q2 q3 q4 qf
  have B5 := B4.trans (bw.mono B4.size)
  clear bw B4
  simp only [tupT]
  by_cases hea : ¬ era = 0
  · have hne : ((era : Int) != 0) = true := by simp; omega
    have HZ : Hid (Below w0.heap.size w0 w5) := B5
    clear B5
    go_wp2
    go_ret
    exact ⟨rfl, HB.out.trans (HZ.out.mono hbx1)⟩
  have hea := Decidable.not_not.1 hea
  by_cases heb : ¬ erb = 0
  · subst hea
    have hne : ((erb : Int) != 0) = true := by simp; omega
    have HZ : Hid (Below w0.heap.size w0 w5) := B5
    clear B5
    go_wp2
    go_ret
    exact ⟨rfl, HB.out.trans (HZ.out.mono hbx1)⟩
  have heb := Decidable.not_not.1 heb
  subst hea
  subst heb
  have hka := (typA_ok hTa).1
  have hkb := (typA_ok hTb).1
  have HKA : Hid (chkE a [] = .inr ka) := hka
  have HKB : Hid (chkE b [] = .inr kb) := hkb
  have hpa : ka ≠ 0 := chk_pos fa hTa
  clear hTa hTb hka hkb
  have bw : Below w5.heap.size w5 (w5.alloc (.cells #[.int .i64 8, .int .i64 9, .int .i64 10, .int .i64 11, .int .i64 12, .int .i64 15, .int .i64 16, .int .i64 17, .int .i64 18, .int .i64 13, .int .i64 14] 3)) := (Below.refl _ w5).alloc (Nat.le_refl _) _
  have Kz : (w5.alloc (.cells #[.int .i64 8, .int .i64 9, .int .i64 10, .int .i64 11, .int .i64 12, .int .i64 15, .int .i64 16, .int .i64 17, .int .i64 18, .int .i64 13, .int .i64 14] 3)).heap[w5.heap.size]? = some (.cells #[.int .i64 8, .int .i64 9, .int .i64 10, .int .i64 11, .int .i64 12, .int .i64 15, .int .i64 16, .int .i64 17, .int .i64 18, .int .i64 13, .int .i64 14] 3) := heap_alloc_new w5 _
  have B6 := B5.trans (bw.mono B5.size)
  go_upto_region 9 with fail
  generalize w5.alloc (.cells #[.int .i64 8, .int .i64 9, .int .i64 10, .int .i64 11, .int .i64 12, .int .i64 15, .int .i64 16, .int .i64 17, .int .i64 18, .int .i64 13, .int .i64 14] 3) = w6 at *
  generalize w5.heap.size = kz at *
  have Xa6 := (B6.block _ hxa).trans Xa
  have Xb6 := (B6.block _ hxb).trans Xb
  have Sa6 := SlA.below Sa B6
  have Sb6 := SlA.below Sb B6
  have FX6 := FX0.below B6
  have HB6 : Hid (Below w.heap.size w w6) := HB.out.trans (B6.mono hbx1)
  have hbx6 : w.heap.size ≤ w6.heap.size := Nat.le_trans hbx1 B6.size
  clear bw B5 B6 Xa Xb Sa Sb FX0 HB hbx1 hxa hxb
  have hxa := lt_of_block Xa6
  have hxb := lt_of_block Xb6
  have hkz := lt_of_block Kz
  go_wp2
  go_loopw [13] (fun v wr => ∃ i : Nat, i ≤ 11 ∧ v = .int .i64 (i : Nat) ∧ Below w6.heap.size w6 wr) (fun v _ => 11 - (intOf v).toNat)
  case atStart => exact ⟨0, by omega, by go_num, Below.refl _ _⟩
  case round =>
    obtain ⟨i, hi, rfl, B1⟩ := hrel
    have Xa1 := (B1.block _ hxa).trans Xa6
    have Xb1 := (B1.block _ hxb).trans Xb6
    have Kz1 := (B1.block _ hkz).trans Kz
    by_cases hi11 : i = 11
    · subst hi11
      have HZ : Hid (Below w.heap.size w wr) := HB6.out.trans (B1.mono hbx6)
      clear B1
      go_wp2
      go_ret
      exact ⟨rfl, HZ.out⟩
    have hi2 : i < 11 := by omega
    have hiI : (i : Int) < 11 := by omega
    obtain ⟨kk, ckk, hkk⟩ : ∃ kk : Int, wr.cell? ⟨kz, i, none⟩ = some (.int .i64 kk) ∧ ((i < 5 ∧ 8 ≤ kk ∧ kk ≤ 12) ∨ ((i = 5 ∨ i = 6) ∧ (kk = 15 ∨ kk = 16)) ∨ ((i = 7 ∨ i = 8) ∧ (kk = 17 ∨ kk = 18)) ∨ (9 ≤ i ∧ (kk = 13 ∨ kk = 14))) := by
      have h3 : i = 0 ∨ i = 1 ∨ i = 2 ∨ i = 3 ∨ i = 4 ∨ i = 5 ∨ i = 6 ∨ i = 7 ∨ i = 8 ∨ i = 9 ∨ i = 10 := by omega
      rcases h3 with rfl | rfl | rfl | rfl | rfl | rfl | rfl | rfl | rfl | rfl | rfl
      · exact ⟨8, (cell_of_row _ kz 0 _ _ (0, 0) Kz1).trans rfl, by omega⟩
      · exact ⟨9, (cell_of_row _ kz 1 _ _ (0, 0) Kz1).trans rfl, by omega⟩
      · exact ⟨10, (cell_of_row _ kz 2 _ _ (0, 0) Kz1).trans rfl, by omega⟩
      · exact ⟨11, (cell_of_row _ kz 3 _ _ (0, 0) Kz1).trans rfl, by omega⟩
      · exact ⟨12, (cell_of_row _ kz 4 _ _ (0, 0) Kz1).trans rfl, by omega⟩
      · exact ⟨15, (cell_of_row _ kz 5 _ _ (0, 0) Kz1).trans rfl, by omega⟩
      · exact ⟨16, (cell_of_row _ kz 6 _ _ (0, 0) Kz1).trans rfl, by omega⟩
      · exact ⟨17, (cell_of_row _ kz 7 _ _ (0, 0) Kz1).trans rfl, by omega⟩
      · exact ⟨18, (cell_of_row _ kz 8 _ _ (0, 0) Kz1).trans rfl, by omega⟩
      · exact ⟨13, (cell_of_row _ kz 9 _ _ (0, 0) Kz1).trans rfl, by omega⟩
      · exact ⟨14, (cell_of_row _ kz 10 _ _ (0, 0) Kz1).trans rfl, by omega⟩
    obtain ⟨p0, p1, p2, p3, p4, pf⟩ := box5 Xa1
    obtain ⟨q0, q1, q2, q3, q4, qf⟩ := box5 Xb1
    go_upto_region 12 with fail
    go_cut [14] (fun v wx => ∃ xb sb, v = .pointer (some ⟨xb, 0, none⟩) ∧ wx.heap[xb]? = some (.cells #[.int .i64 kk, .int .i64 0, .string ⟨#[]⟩, .slice (some ⟨sb, 0, none⟩) 2 2, .int .i64 0] 25 (0, 0)) ∧ wx.heap[sb]? = some (.cells #[.int .i64 a.k, .int .i64 a.n, stv a.nm, .slice aoa a.kids.len capa, .int .i64 a.a, .int .i64 b.k, .int .i64 b.n, stv b.nm, .slice aob b.kids.len capb, .int .i64 b.a] 25 (0, 0)) ∧ Below wr.heap.size wr wx)
    case first =>
      go_wp2_with fail
      have hn1 := World.new_ne wr ⟨kz, i, none⟩ ckk
      have hn2 := World.new_ne wr ⟨ba, 0, none⟩ p0
      have hn3 := World.new_ne wr ⟨bb, 0, none⟩ q0
      go_region_held3 (fun wx => wx.cell? ⟨kz, i, none⟩ = some (.int .i64 kk) ∧ wx.cell? ⟨ba, 0, none⟩ = some (.int .i64 a.k) ∧ wx.cell? ⟨ba, 1, none⟩ = some (.int .i64 a.n) ∧ wx.cell? ⟨ba, 2, none⟩ = some (stv a.nm) ∧ wx.cell? ⟨ba, 3, none⟩ = some (.slice aoa a.kids.len capa) ∧ wx.cell? ⟨ba, 4, none⟩ = some (.int .i64 a.a) ∧ wx.cell? ⟨bb, 0, none⟩ = some (.int .i64 b.k) ∧ wx.cell? ⟨bb, 1, none⟩ = some (.int .i64 b.n) ∧ wx.cell? ⟨bb, 2, none⟩ = some (stv b.nm) ∧ wx.cell? ⟨bb, 3, none⟩ = some (.slice aob b.kids.len capb) ∧ wx.cell? ⟨bb, 4, none⟩ = some (.int .i64 b.a)) (go_keep) (fail)
      · have HZ : Hid (∃ wz, wz = ((wr.alloc (.cells #[.int .i64 a.k, .int .i64 a.n, stv a.nm, .slice aoa a.kids.len capa, .int .i64 a.a, .int .i64 b.k, .int .i64 b.n, stv b.nm, .slice aob b.kids.len capb, .int .i64 b.a] 25)).alloc (.cells #[.int .i64 kk, .int .i64 0, .string ⟨#[]⟩, .slice (some ⟨wr.heap.size, 0, none⟩) 2 2, .int .i64 0] 25)).drew ∧ wz.heap[wr.heap.size + 1]? = some (.cells #[.int .i64 kk, .int .i64 0, .string ⟨#[]⟩, .slice (some ⟨wr.heap.size, 0, none⟩) 2 2, .int .i64 0] 25 (0, 0)) ∧ wz.heap[wr.heap.size]? = some (.cells #[.int .i64 a.k, .int .i64 a.n, stv a.nm, .slice aoa a.kids.len capa, .int .i64 a.a, .int .i64 b.k, .int .i64 b.n, stv b.nm, .slice aob b.kids.len capb, .int .i64 b.a] 25 (0, 0)) ∧ Below wr.heap.size wr wz) := ⟨_, rfl, new_two_b wr _ _, new_two_a wr _ _, below_two wr _ _⟩
        clear p0 p1 p2 p3 p4 pf q0 q1 q2 q3 q4 qf hn1 hn2 hn3
        obtain ⟨wz, hwz, h1, h2, h3⟩ := HZ.out
        clear HZ
        rw [← hwz]
        clear hwz
        go_wp2
        go_meet
        exact ⟨_, _, rfl, h1, h2, h3⟩
      · have HZ : Hid (∃ wz, wz = ((wr.alloc (.cells #[.int .i64 kk, .int .i64 0, .string ⟨#[]⟩, .slice (some ⟨wr.heap.size + 1, 0, none⟩) 2 2, .int .i64 0] 25)).alloc (.cells #[.int .i64 a.k, .int .i64 a.n, stv a.nm, .slice aoa a.kids.len capa, .int .i64 a.a, .int .i64 b.k, .int .i64 b.n, stv b.nm, .slice aob b.kids.len capb, .int .i64 b.a] 25)).drew ∧ wz.heap[wr.heap.size]? = some (.cells #[.int .i64 kk, .int .i64 0, .string ⟨#[]⟩, .slice (some ⟨wr.heap.size + 1, 0, none⟩) 2 2, .int .i64 0] 25 (0, 0)) ∧ wz.heap[wr.heap.size + 1]? = some (.cells #[.int .i64 a.k, .int .i64 a.n, stv a.nm, .slice aoa a.kids.len capa, .int .i64 a.a, .int .i64 b.k, .int .i64 b.n, stv b.nm, .slice aob b.kids.len capb, .int .i64 b.a] 25 (0, 0)) ∧ Below wr.heap.size wr wz) := ⟨_, rfl, new_two_a wr _ _, new_two_b wr _ _, below_two wr _ _⟩
        clear p0 p1 p2 p3 p4 pf q0 q1 q2 q3 q4 qf hn1 hn2 hn3
        obtain ⟨wz, hwz, h1, h2, h3⟩ := HZ.out
        clear HZ
        rw [← hwz]
        clear hwz
        go_wp2
        go_meet
        exact ⟨_, _, rfl, h1, h2, h3⟩
    case rest =>
      obtain ⟨xb, sb, rfl, Hx, Hs, bz⟩ := hcut
      have B2 := B1.trans (bz.mono B1.size)
      have hss : sb < wc.heap.size := lt_of_block Hs
      have Sx : SlT wc (twoX kk 0 a b).kids (some ⟨sb, 0, none⟩) := Sl.of trivial hss (xs := [.int .i64 a.k, .int .i64 a.n, stv a.nm, .slice aoa a.kids.len capa, .int .i64 a.a, .int .i64 b.k, .int .i64 b.n, stv b.nm, .slice aob b.kids.len capb, .int .i64 b.a]) (fun j u hu => by rw [Nat.zero_add, cell_of_row _ sb j _ _ (0, 0) Hs]; simpa using hu) ⟨aoa, capa, _, rfl, SlA.below Sa6 B2, aob, capb, [], rfl, SlA.below Sb6 B2, rfl⟩
      have fx := two_fit kk fa fb
      have c1 := right_q (twoX kk 0 a b) (some ⟨sb, 0, none⟩) 2 wc fx Sx
      have hxv : exV (twoX kk 0 a b) (some ⟨sb, 0, none⟩) 2 = .agg #[.int .i64 kk, .int .i64 0, .string ⟨#[]⟩, .slice (some ⟨sb, 0, none⟩) 2 2, .int .i64 0] := rfl
      have hc2 := fun (w2 : World) h1 h2 => tcheck_r (twoX kk 0 a b) (some ⟨sb, 0, none⟩) 2 w2 fx h1 h2
      rw [hxv] at c1 hc2
      obtain ⟨x0, x1, x2, x3, x4, xf⟩ := box5 Hx
      clear p0 p1 p2 p3 p4 pf q0 q1 q2 q3 q4 qf Hs ckk Kz1 Xa1 Xb1 hss hxv
      go_wp2_with fail
      refine c1.mono ?_
      rintro z w3 ⟨rfl, b3⟩
      have B3 := B2.trans (b3.mono B2.size)
      have Hx3 := (b3.block _ (lt_of_block Hx)).trans Hx
      have Sx3 := SlT.below Sx b3
      clear c1 x0 x1 x2 x3 x4 xf Hx Sx b3 bz B2
      cases hW : writA (twoX kk 0 a b) with
      | none =>
        simp only [Option.isSome_none]
        have HZ : Hid (Below w6.heap.size w6 w3) := B3
        clear B3 hW hkk hc2 fx Sx3 Hx3 B1
        go_wp2
        go_roundw
        case rel => exact ⟨i + 1, by omega, by go_num, HZ.out⟩
        case measure => simp [intOf]; omega
      | some t =>
        simp only [Option.isSome_some]
        obtain ⟨x0, x1, x2, x3, x4, xf⟩ := box5 Hx3
        obtain ⟨p0, p1, p2, p3, p4, pf⟩ := box5 ((B3.block _ hxa).trans Xa6)
        obtain ⟨q0, q1, q2, q3, q4, qf⟩ := box5 ((B3.block _ hxb).trans Xb6)
        have c2 := hc2 w3 (FX6.below B3) Sx3
        have HKK : Hid ((i < 5 ∧ 8 ≤ kk ∧ kk ≤ 12) ∨ ((i = 5 ∨ i = 6) ∧ (kk = 15 ∨ kk = 16)) ∨ ((i = 7 ∨ i = 8) ∧ (kk = 17 ∨ kk = 18)) ∨ (9 ≤ i ∧ (kk = 13 ∨ kk = 14))) := hkk
        have HWT : Hid (writA (twoX kk 0 a b) = some t) := hW
        clear hc2 fx Sx3 hW hkk B1
        have hi0 : 0 ≤ (i : Int) := by omega
        rcases (show i < 5 ∨ (i = 5 ∨ i = 6) ∨ (i = 7 ∨ i = 8) ∨ 9 ≤ i by omega) with hcl | hcl | hcl | hcl
        · have hT := typ_two (t := t) kk 1 1 HWT.out HKA.out HKB.out hpa (by have := HKK.out; omega)
          have hT2 : Hid (typA (twoX kk 0 a b) = if ka ≠ 1 then (0, 131, a.a) else if kb ≠ 1 then (0, 131, b.a) else (1, 0, 0)) := hT
          have h5 : (i : Int) < 5 := by omega
          have h7 : ¬ 7 ≤ (i : Int) := by omega
          have h9 : ¬ 9 ≤ (i : Int) := by omega
          clear hT hcl HKK
          by_cases hk : ¬ ka = 1
          · have hTT : typA (twoX kk 0 a b) = (0, 131, a.a) := by rw [hT2.out, if_pos hk]
            have hkb1 : (ka == 1) = false := by simpa using hk
            have hkb2 : (ka != 1) = true := by simpa using hk
            rw [hTT] at c2
            clear hTT hT2 hk HWT
            go_wp2_with fail
            refine c2.mono ?_
            rintro z w4 ⟨rfl, b4⟩
            have HZ : Hid (Below w6.heap.size w6 w4) := B3.trans (b4.mono B3.size)
            have pa4 := (b4.cell (p := ⟨ba, 4, none⟩) (Nat.lt_of_lt_of_le hxa B3.size)).trans p4
            have pb4 := (b4.cell (p := ⟨bb, 4, none⟩) (Nat.lt_of_lt_of_le hxb B3.size)).trans q4
            clear c2 b4 B3 x0 x1 x2 x3 x4 xf p0 p1 p2 p3 p4 pf q0 q1 q2 q3 q4 qf Hx3
            go_wp2
            go_roundw
            case rel => exact ⟨i + 1, by omega, by go_num, HZ.out⟩
            case measure => simp [intOf]; omega
          have hk := Decidable.not_not.1 hk
          by_cases hl : ¬ kb = 1
          · have hTT : typA (twoX kk 0 a b) = (0, 131, b.a) := by rw [hT2.out, if_neg (fun h => h hk), if_pos hl]
            have hkb1 : (ka == 1) = true := by simpa using hk
            have hkb2 : (ka != 1) = false := by simpa using hk
            have hkb3 : (kb == 1) = false := by simpa using hl
            rw [hTT] at c2
            clear hTT hT2 hk hl HWT
            go_wp2_with fail
            refine c2.mono ?_
            rintro z w4 ⟨rfl, b4⟩
            have HZ : Hid (Below w6.heap.size w6 w4) := B3.trans (b4.mono B3.size)
            have pa4 := (b4.cell (p := ⟨ba, 4, none⟩) (Nat.lt_of_lt_of_le hxa B3.size)).trans p4
            have pb4 := (b4.cell (p := ⟨bb, 4, none⟩) (Nat.lt_of_lt_of_le hxb B3.size)).trans q4
            clear c2 b4 B3 x0 x1 x2 x3 x4 xf p0 p1 p2 p3 p4 pf q0 q1 q2 q3 q4 qf Hx3
            go_wp2
            go_roundw
            case rel => exact ⟨i + 1, by omega, by go_num, HZ.out⟩
            case measure => simp [intOf]; omega
          have hl := Decidable.not_not.1 hl
          · have hTT : typA (twoX kk 0 a b) = (1, 0, 0) := by rw [hT2.out, if_neg (fun h => h hk), if_neg (fun h => h hl)]
            have hkb1 : (ka == 1) = true := by simpa using hk
            have hkb2 : (ka != 1) = false := by simpa using hk
            have hkb3 : (kb == 1) = true := by simpa using hl
            rw [hTT] at c2
            clear hTT hT2 hk hl HWT
            go_wp2_with fail
            refine c2.mono ?_
            rintro z w4 ⟨rfl, b4⟩
            have HZ : Hid (Below w6.heap.size w6 w4) := B3.trans (b4.mono B3.size)
            have pa4 := (b4.cell (p := ⟨ba, 4, none⟩) (Nat.lt_of_lt_of_le hxa B3.size)).trans p4
            have pb4 := (b4.cell (p := ⟨bb, 4, none⟩) (Nat.lt_of_lt_of_le hxb B3.size)).trans q4
            clear c2 b4 B3 x0 x1 x2 x3 x4 xf p0 p1 p2 p3 p4 pf q0 q1 q2 q3 q4 qf Hx3
            go_wp2
            go_roundw
            case rel => exact ⟨i + 1, by omega, by go_num, HZ.out⟩
            case measure => simp [intOf]; omega
        · have hT := typ_two (t := t) kk 1 2 HWT.out HKA.out HKB.out hpa (by have := HKK.out; omega)
          have hT2 : Hid (typA (twoX kk 0 a b) = if ka ≠ 1 then (0, 131, a.a) else if kb ≠ 1 then (0, 131, b.a) else (2, 0, 0)) := hT
          have h5 : ¬ (i : Int) < 5 := by omega
          have h7 : ¬ 7 ≤ (i : Int) := by omega
          have h9 : ¬ 9 ≤ (i : Int) := by omega
          clear hT hcl HKK
          by_cases hk : ¬ ka = 1
          · have hTT : typA (twoX kk 0 a b) = (0, 131, a.a) := by rw [hT2.out, if_pos hk]
            have hkb1 : (ka == 1) = false := by simpa using hk
            have hkb2 : (ka != 1) = true := by simpa using hk
            rw [hTT] at c2
            clear hTT hT2 hk HWT
            go_wp2_with fail
            refine c2.mono ?_
            rintro z w4 ⟨rfl, b4⟩
            have HZ : Hid (Below w6.heap.size w6 w4) := B3.trans (b4.mono B3.size)
            have pa4 := (b4.cell (p := ⟨ba, 4, none⟩) (Nat.lt_of_lt_of_le hxa B3.size)).trans p4
            have pb4 := (b4.cell (p := ⟨bb, 4, none⟩) (Nat.lt_of_lt_of_le hxb B3.size)).trans q4
            clear c2 b4 B3 x0 x1 x2 x3 x4 xf p0 p1 p2 p3 p4 pf q0 q1 q2 q3 q4 qf Hx3
            go_wp2
            go_roundw
            case rel => exact ⟨i + 1, by omega, by go_num, HZ.out⟩
            case measure => simp [intOf]; omega
          have hk := Decidable.not_not.1 hk
          by_cases hl : ¬ kb = 1
          · have hTT : typA (twoX kk 0 a b) = (0, 131, b.a) := by rw [hT2.out, if_neg (fun h => h hk), if_pos hl]
            have hkb1 : (ka == 1) = true := by simpa using hk
            have hkb2 : (ka != 1) = false := by simpa using hk
            have hkb3 : (kb == 1) = false := by simpa using hl
            rw [hTT] at c2
            clear hTT hT2 hk hl HWT
            go_wp2_with fail
            refine c2.mono ?_
            rintro z w4 ⟨rfl, b4⟩
            have HZ : Hid (Below w6.heap.size w6 w4) := B3.trans (b4.mono B3.size)
            have pa4 := (b4.cell (p := ⟨ba, 4, none⟩) (Nat.lt_of_lt_of_le hxa B3.size)).trans p4
            have pb4 := (b4.cell (p := ⟨bb, 4, none⟩) (Nat.lt_of_lt_of_le hxb B3.size)).trans q4
            clear c2 b4 B3 x0 x1 x2 x3 x4 xf p0 p1 p2 p3 p4 pf q0 q1 q2 q3 q4 qf Hx3
            go_wp2
            go_roundw
            case rel => exact ⟨i + 1, by omega, by go_num, HZ.out⟩
            case measure => simp [intOf]; omega
          have hl := Decidable.not_not.1 hl
          · have hTT : typA (twoX kk 0 a b) = (2, 0, 0) := by rw [hT2.out, if_neg (fun h => h hk), if_neg (fun h => h hl)]
            have hkb1 : (ka == 1) = true := by simpa using hk
            have hkb2 : (ka != 1) = false := by simpa using hk
            have hkb3 : (kb == 1) = true := by simpa using hl
            rw [hTT] at c2
            clear hTT hT2 hk hl HWT
            go_wp2_with fail
            refine c2.mono ?_
            rintro z w4 ⟨rfl, b4⟩
            have HZ : Hid (Below w6.heap.size w6 w4) := B3.trans (b4.mono B3.size)
            have pa4 := (b4.cell (p := ⟨ba, 4, none⟩) (Nat.lt_of_lt_of_le hxa B3.size)).trans p4
            have pb4 := (b4.cell (p := ⟨bb, 4, none⟩) (Nat.lt_of_lt_of_le hxb B3.size)).trans q4
            clear c2 b4 B3 x0 x1 x2 x3 x4 xf p0 p1 p2 p3 p4 pf q0 q1 q2 q3 q4 qf Hx3
            go_wp2
            go_roundw
            case rel => exact ⟨i + 1, by omega, by go_num, HZ.out⟩
            case measure => simp [intOf]; omega
        · have hT := typ_two (t := t) kk 2 2 HWT.out HKA.out HKB.out hpa (by have := HKK.out; omega)
          have hT2 : Hid (typA (twoX kk 0 a b) = if ka ≠ 2 then (0, 131, a.a) else if kb ≠ 2 then (0, 131, b.a) else (2, 0, 0)) := hT
          have h5 : ¬ (i : Int) < 5 := by omega
          have h7 : 7 ≤ (i : Int) := by omega
          have h9 : ¬ 9 ≤ (i : Int) := by omega
          clear hT hcl HKK
          by_cases hk : ¬ ka = 2
          · have hTT : typA (twoX kk 0 a b) = (0, 131, a.a) := by rw [hT2.out, if_pos hk]
            have hkb1 : (ka == 2) = false := by simpa using hk
            have hkb2 : (ka != 2) = true := by simpa using hk
            rw [hTT] at c2
            clear hTT hT2 hk HWT
            go_wp2_with fail
            refine c2.mono ?_
            rintro z w4 ⟨rfl, b4⟩
            have HZ : Hid (Below w6.heap.size w6 w4) := B3.trans (b4.mono B3.size)
            have pa4 := (b4.cell (p := ⟨ba, 4, none⟩) (Nat.lt_of_lt_of_le hxa B3.size)).trans p4
            have pb4 := (b4.cell (p := ⟨bb, 4, none⟩) (Nat.lt_of_lt_of_le hxb B3.size)).trans q4
            clear c2 b4 B3 x0 x1 x2 x3 x4 xf p0 p1 p2 p3 p4 pf q0 q1 q2 q3 q4 qf Hx3
            go_wp2
            go_roundw
            case rel => exact ⟨i + 1, by omega, by go_num, HZ.out⟩
            case measure => simp [intOf]; omega
          have hk := Decidable.not_not.1 hk
          by_cases hl : ¬ kb = 2
          · have hTT : typA (twoX kk 0 a b) = (0, 131, b.a) := by rw [hT2.out, if_neg (fun h => h hk), if_pos hl]
            have hkb1 : (ka == 2) = true := by simpa using hk
            have hkb2 : (ka != 2) = false := by simpa using hk
            have hkb3 : (kb == 2) = false := by simpa using hl
            rw [hTT] at c2
            clear hTT hT2 hk hl HWT
            go_wp2_with fail
            refine c2.mono ?_
            rintro z w4 ⟨rfl, b4⟩
            have HZ : Hid (Below w6.heap.size w6 w4) := B3.trans (b4.mono B3.size)
            have pa4 := (b4.cell (p := ⟨ba, 4, none⟩) (Nat.lt_of_lt_of_le hxa B3.size)).trans p4
            have pb4 := (b4.cell (p := ⟨bb, 4, none⟩) (Nat.lt_of_lt_of_le hxb B3.size)).trans q4
            clear c2 b4 B3 x0 x1 x2 x3 x4 xf p0 p1 p2 p3 p4 pf q0 q1 q2 q3 q4 qf Hx3
            go_wp2
            go_roundw
            case rel => exact ⟨i + 1, by omega, by go_num, HZ.out⟩
            case measure => simp [intOf]; omega
          have hl := Decidable.not_not.1 hl
          · have hTT : typA (twoX kk 0 a b) = (2, 0, 0) := by rw [hT2.out, if_neg (fun h => h hk), if_neg (fun h => h hl)]
            have hkb1 : (ka == 2) = true := by simpa using hk
            have hkb2 : (ka != 2) = false := by simpa using hk
            have hkb3 : (kb == 2) = true := by simpa using hl
            rw [hTT] at c2
            clear hTT hT2 hk hl HWT
            go_wp2_with fail
            refine c2.mono ?_
            rintro z w4 ⟨rfl, b4⟩
            have HZ : Hid (Below w6.heap.size w6 w4) := B3.trans (b4.mono B3.size)
            have pa4 := (b4.cell (p := ⟨ba, 4, none⟩) (Nat.lt_of_lt_of_le hxa B3.size)).trans p4
            have pb4 := (b4.cell (p := ⟨bb, 4, none⟩) (Nat.lt_of_lt_of_le hxb B3.size)).trans q4
            clear c2 b4 B3 x0 x1 x2 x3 x4 xf p0 p1 p2 p3 p4 pf q0 q1 q2 q3 q4 qf Hx3
            go_wp2
            go_roundw
            case rel => exact ⟨i + 1, by omega, by go_num, HZ.out⟩
            case measure => simp [intOf]; omega
        · have hT := typ_two (t := t) kk ka 2 HWT.out HKA.out HKB.out hpa (by have := HKK.out; omega)
          have hT2 : Hid (typA (twoX kk 0 a b) = if ka ≠ ka then (0, 131, a.a) else if kb ≠ ka then (0, 131, b.a) else (2, 0, 0)) := hT
          have h5 : ¬ (i : Int) < 5 := by omega
          have h7 : 7 ≤ (i : Int) := by omega
          have h9 : 9 ≤ (i : Int) := by omega
          clear hT hcl HKK
          by_cases hk : ¬ ka = ka
          · exact absurd rfl hk
          have hk := Decidable.not_not.1 hk
          by_cases hl : ¬ kb = ka
          · have hTT : typA (twoX kk 0 a b) = (0, 131, b.a) := by rw [hT2.out, if_neg (fun h => h hk), if_pos hl]
            have hkb1 : (ka == ka) = true := by simp
            have hkb2 : (ka != ka) = false := by simp
            have hkb3 : (kb == ka) = false := by simpa using hl
            rw [hTT] at c2
            clear hTT hT2 hk hl HWT
            go_wp2_with fail
            refine c2.mono ?_
            rintro z w4 ⟨rfl, b4⟩
            have HZ : Hid (Below w6.heap.size w6 w4) := B3.trans (b4.mono B3.size)
            have pa4 := (b4.cell (p := ⟨ba, 4, none⟩) (Nat.lt_of_lt_of_le hxa B3.size)).trans p4
            have pb4 := (b4.cell (p := ⟨bb, 4, none⟩) (Nat.lt_of_lt_of_le hxb B3.size)).trans q4
            clear c2 b4 B3 x0 x1 x2 x3 x4 xf p0 p1 p2 p3 p4 pf q0 q1 q2 q3 q4 qf Hx3
            go_wp2
            go_roundw
            case rel => exact ⟨i + 1, by omega, by go_num, HZ.out⟩
            case measure => simp [intOf]; omega
          have hl := Decidable.not_not.1 hl
          · have hTT : typA (twoX kk 0 a b) = (2, 0, 0) := by rw [hT2.out, if_neg (fun h => h hk), if_neg (fun h => h hl)]
            have hkb1 : (ka == ka) = true := by simp
            have hkb2 : (ka != ka) = false := by simp
            have hkb3 : (kb == ka) = true := by simpa using hl
            rw [hTT] at c2
            clear hTT hT2 hk hl HWT
            go_wp2_with fail
            refine c2.mono ?_
            rintro z w4 ⟨rfl, b4⟩
            have HZ : Hid (Below w6.heap.size w6 w4) := B3.trans (b4.mono B3.size)
            have pa4 := (b4.cell (p := ⟨ba, 4, none⟩) (Nat.lt_of_lt_of_le hxa B3.size)).trans p4
            have pb4 := (b4.cell (p := ⟨bb, 4, none⟩) (Nat.lt_of_lt_of_le hxb B3.size)).trans q4
            clear c2 b4 B3 x0 x1 x2 x3 x4 xf p0 p1 p2 p3 p4 pf q0 q1 q2 q3 q4 qf Hx3
            go_wp2
            go_roundw
            case rel => exact ⟨i + 1, by omega, by go_num, HZ.out⟩
            case measure => simp [intOf]; omega
end Go.Proofs.YtafnlhnenmpfoaaGreatDoor
