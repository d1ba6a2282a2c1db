/- Families: a new one, and what is done to the set of one name. -/
import Derived.Test.YtmpkhbblakfglaaDoorNameC
namespace Go.Proofs.YtmpkhbblakfglaaDoor
open Go.ChangeShapes Go.WideShapes Go.ChangeAt Go.RowKit Go.Maps
set_option linter.unusedVariables false

/-- A family of m sets at p: F tells them by their names. -/
def Fam (w : World) (o : Nat → Nat) (L p m : Nat) (F : ByteArray → Option Nat) : Prop :=
  ∃ b, Blk w o L p (.cells #[.map (some b)] 54 (0, 0)) ∧ SfM w o (L + 1) b m F
theorem Fam.step {I : Nat → Prop} {w w' : World} {o o' : Nat → Nat} {L p m : Nat} {F : ByteArray → Option Nat} (h : Fam w o L p m F) (s : Step I w o w' o') (h0 : ¬ I L) (h1 : ¬ I (L + 1)) : Fam w' o' L p m F := by
  obtain ⟨b, hB, hM⟩ := h
  exact ⟨b, hB.step s h0, hM.step s h1⟩

theorem new9 (w : World) (o : Nat → Nat) (L : Nat) :
    Calls Tryd.prog 5 #[] w fun e w' => ∃ p o', e = .returned (.pointer (some ⟨p, 0, none⟩)) ∧ Fam w' o' L p 0 (fun _ => none) ∧ Step (fun _ => False) w o w' o' := by
  have s0 := newStep (fun _ => False) w o (L + 1) (.map #[] 0)
  have M0 := SfM.made w o (L + 1)
  have s1 := newStep (fun _ => False) (w.alloc (.map #[] 0)) (newLab w o (L + 1)) L (.cells #[.map (some w.heap.size)] 54)
  have B1 : Blk ((w.alloc (.map #[] 0)).alloc (.cells #[.map (some w.heap.size)] 54)) (newLab (w.alloc (.map #[] 0)) (newLab w o (L + 1)) L) L (w.alloc (.map #[] 0)).heap.size (.cells #[.map (some w.heap.size)] 54 (0, 0)) := ⟨heap_alloc_new _ _, newLab_new (Nat.le_refl _)⟩
  have M1 := M0.step s1 id
  have RR : ∃ p o', p = w.heap.size + 1 ∧ Fam ((w.alloc (.map #[] 0)).alloc (.cells #[.map (some w.heap.size)] 54)) o' L p 0 (fun _ => none) ∧ Step (fun _ => False) w o ((w.alloc (.map #[] 0)).alloc (.cells #[.map (some w.heap.size)] 54)) o' :=
    ⟨_, _, by simp, ⟨_, B1, M1⟩, s0.trans s1⟩
  clear s0 M0 s1 B1 M1
  obtain ⟨p, o', hp, h1, h2⟩ := RR
  have hmm := run_makeMap (P := Tryd.prog) 52 w
  go_enter Tryd.func5, Tryd.ntmps5
  go_wp2
  go_ret
  exact ⟨p, o', by rw [hp]; rfl, h1, h2⟩

theorem has9 (w : World) (o : Nat → Nat) (L p m : Nat) (F : ByteArray → Option Nat) (s : ByteArray) (h : Fam w o L p m F) (hs : s.size ≤ maxLen) :
    Calls Tryd.prog 35 #[.pointer (some ⟨p, 0, none⟩), .string s] w fun e w' => e = .returned (.bool (F s).isSome) ∧ Below w.heap.size w w' := by
  obtain ⟨b, hB, hM⟩ := h
  have c0 := hB.cell1.1
  obtain ⟨y, hl⟩ := hM.lookOk hs
  go_enter Tryd.func35, Tryd.ntmps35
  go_wp2
  go_ret
  exact ⟨rfl, bal (b0 _) _⟩

theorem add_name (w : World) (o : Nat → Nat) (L p m : Nat) (F : ByteArray → Option Nat) (s : ByteArray) (h : Fam w o L p m F) (hs : s.size ≤ maxLen) (hW : Wd w) (hn : ¬ isNm s) :
    Calls Tryd.prog 11 #[.pointer (some ⟨p, 0, none⟩), .string s] w fun e w' => e = .returned (.int .i64 90) ∧ w' = w := by
  go_enter Tryd.func11, Tryd.ntmps11
  go_wp2_with fail
  refine (name_c s _ hW hs).mono ?_
  rintro e w1 ⟨b, rfl, hb, rfl⟩
  obtain rfl : b = false := by cases b <;> simp_all
  go_wp2
  go_ret
  exact ⟨rfl, rfl⟩
theorem add_twice (w : World) (o : Nat → Nat) (L p m : Nat) (F : ByteArray → Option Nat) (s : ByteArray) (h : Fam w o L p m F) (hs : s.size ≤ maxLen) (hW : Wd w) (hn : isNm s) (hf : (F s).isSome = true) :
    Calls Tryd.prog 11 #[.pointer (some ⟨p, 0, none⟩), .string s] w fun e w' => e = .returned (.int .i64 91) ∧ Below w.heap.size w w' := by
  go_enter Tryd.func11, Tryd.ntmps11
  go_wp2_with fail
  refine (name_c s _ hW hs).mono ?_
  rintro e w1 ⟨b, rfl, hb, rfl⟩
  obtain rfl : b = true := hb.2 hn
  go_wp2_with fail
  refine (has9 _ o L p m F s h hs).mono ?_
  rw [hf]
  rintro e w2 ⟨rfl, hb2⟩
  go_wp2
  go_ret
  exact ⟨rfl, hb2⟩
set_option maxRecDepth 100000 in
theorem add_full (w : World) (o : Nat → Nat) (L p m : Nat) (F : ByteArray → Option Nat) (s : ByteArray) (h : Fam w o L p m F) (hs : s.size ≤ maxLen) (hW : Wd w) (hn : isNm s) (hf : (F s).isSome = false) (hm : 16 ≤ m) :
    Calls Tryd.prog 11 #[.pointer (some ⟨p, 0, none⟩), .string s] w fun e w' => e = .returned (.int .i64 92) ∧ Below w.heap.size w w' := by
  go_enter Tryd.func11, Tryd.ntmps11
  go_wp2_with fail
  refine (name_c s _ hW hs).mono ?_
  rintro e w1 ⟨b, rfl, hb, rfl⟩
  obtain rfl : b = true := hb.2 hn
  go_wp2_with fail
  refine (has9 _ o L p m F s h hs).mono ?_
  rw [hf]
  rintro e w2 ⟨rfl, hb2⟩
  obtain ⟨bm, hB, hM⟩ := h.step (Step.ofBelow (I := fun _ => False) o hb2) id id
  have c0 := hB.cell1.1
  have hl := hM.len 3
  have hmI : (16 : Int) ≤ (m : Int) := by omega
  clear hb hn hW hf hM hB h
  go_wp2
  go_ret
  exact ⟨rfl, hb2⟩
set_option maxRecDepth 100000 in
theorem add_ok (w : World) (o : Nat → Nat) (L p m : Nat) (F : ByteArray → Option Nat) (s : ByteArray) (h : Fam w o L p m F) (hs : s.size ≤ maxLen) (hW : Wd w) (hn : isNm s) (hf : (F s).isSome = false) (hm : m < 16) :
    Calls Tryd.prog 11 #[.pointer (some ⟨p, 0, none⟩), .string s] w fun e w' => e = .returned (.int .i64 0) ∧ Fam w' o L p (m + 1) (updN F s (some 0)) ∧ Step (fun k => k = L + 1) w o w' o := by
  go_enter Tryd.func11, Tryd.ntmps11
  go_wp2_with fail
  refine (name_c s _ hW hs).mono ?_
  rintro e w1 ⟨b, rfl, hb, rfl⟩
  obtain rfl : b = true := hb.2 hn
  go_wp2_with fail
  refine (has9 _ o L p m F s h hs).mono ?_
  rw [hf]
  rintro e w2 ⟨rfl, hb2⟩
  have s2 : Step (fun k => k = L + 1) w1 o w2 o := Step.ofBelow o hb2
  obtain ⟨bm, hB, hM⟩ := h.step (Step.ofBelow (I := fun _ => False) o hb2) id id
  have c0 := hB.cell1.1
  have hl := hM.len 3
  have hmI : ¬ (16 : Int) ≤ (m : Int) := by omega
  obtain ⟨w3, hput, M3, s3⟩ := hM.put hs 0 (by omega)
  have hput2 : (Instr.mapUpdate 52 (.map (some bm)) (.string s) (.agg #[.int .u64 0])).run Tryd.prog w2 = .ok () w3 := hput
  rw [hf] at M3
  simp only [Bool.false_eq_true, if_false] at M3
  have RR : Fam w3 o L p (m + 1) (updN F s (some 0)) ∧ Step (fun k => k = L + 1) w1 o w3 o := ⟨⟨bm, hB.step s3 (by omega), M3⟩, s2.trans s3⟩
  clear s2 M3 s3 hM hB h hb hn hW hf hput
  go_wp2
  go_ret
  exact ⟨rfl, RR⟩
theorem lay_no (w : World) (o : Nat → Nat) (L p m : Nat) (F : ByteArray → Option Nat) (s : ByteArray) (x : Nat) (h : Fam w o L p m F) (hs : s.size ≤ maxLen) (hf : (F s).isSome = false) :
    Calls Tryd.prog 12 #[.pointer (some ⟨p, 0, none⟩), .string s, sv x] w fun e w' => e = .returned (.int .i64 93) ∧ Below w.heap.size w w' := by
  have B1 : Below w.heap.size w (w.alloc (.cells #[.int .u64 (x : Nat)] 42)) := bal (b0 _) _
  have h1 := h.step (Step.ofBelow (I := fun _ => False) o B1) id id
  go_enter Tryd.func12, Tryd.ntmps12
  go_wp2_with fail
  refine (has9 _ o L p m F s h1 hs).mono ?_
  rw [hf]
  rintro e w2 ⟨rfl, hb2⟩
  go_wp2
  go_ret
  exact ⟨rfl, bjoin B1 hb2⟩
theorem lay_ok (w : World) (o : Nat → Nat) (L p m : Nat) (F : ByteArray → Option Nat) (s : ByteArray) (x : Nat) (h : Fam w o L p m F) (hs : s.size ≤ maxLen) (hf : (F s).isSome = true) (hm : m ≤ 100000) :
    Calls Tryd.prog 12 #[.pointer (some ⟨p, 0, none⟩), .string s, sv x] w fun e w' => e = .returned (.int .i64 0) ∧ Fam w' o L p m (updN F s (some x)) ∧ Step (fun k => k = L + 1) w o w' o := by
  obtain ⟨w1, hw1⟩ : ∃ w1, w1 = w.alloc (.cells #[.int .u64 (x : Nat)] 42) := ⟨_, rfl⟩
  obtain ⟨b1, hb1⟩ : ∃ b, b = w.heap.size := ⟨_, rfl⟩
  have k1 : w1.cell? ⟨b1, 0, none⟩ = some (.int .u64 (x : Nat)) := by rw [hw1, hb1]; exact box_cell _ _ _
  have hlt : b1 < w1.heap.size := by rw [hw1, hb1]; simp
  have B1 : Below w.heap.size w w1 := by rw [hw1]; exact bal (b0 _) _
  have h1 := h.step (Step.ofBelow (I := fun _ => False) o B1) id id
  have HB1 : Hid (b1 = w.heap.size) := hb1
  clear hb1
  go_enter Tryd.func12, Tryd.ntmps12
  go_wp2_with fail
  rw [← hw1, ← HB1.out]
  clear hw1 HB1
  refine (has9 _ o L p m F s h1 hs).mono ?_
  rw [hf]
  rintro e w2 ⟨rfl, hb2⟩
  have k2 := (hb2.cell (p := ⟨b1, 0, none⟩) hlt).trans k1
  have s2 : Step (fun k => k = L + 1) w o w2 o := Step.ofBelow o (bjoin B1 hb2)
  obtain ⟨bm, hB, hM⟩ := h1.step (Step.ofBelow (I := fun _ => False) o hb2) id id
  have sd : Step (fun _ => False) w2 o w2.drew o := (Step.refl _ _ _).drew
  obtain ⟨w3, hput, M3, s3⟩ := (hM.step sd id).put hs x hm
  rw [hf] at M3
  simp only [if_true] at M3
  have c0 := hB.cell1.1
  have RR : Fam w3 o L p m (updN F s (some x)) ∧ Step (fun k => k = L + 1) w o w3 o := ⟨⟨bm, (hB.step sd id).step s3 (by omega), M3⟩, (s2.trans (sd.mono fun _ h => h.elim)).trans s3⟩
  clear s2 M3 s3 hM hB h h1 hf sd hb2 B1 k1 hlt
  go_wp2_with fail
  go_region
  go_wp2
  go_ret
  exact ⟨rfl, RR⟩
theorem get_no (w : World) (o : Nat → Nat) (L p m : Nat) (F : ByteArray → Option Nat) (s : ByteArray) (h : Fam w o L p m F) (hs : s.size ≤ maxLen) (hf : F s = none) :
    Calls Tryd.prog 13 #[.pointer (some ⟨p, 0, none⟩), .string s] w fun e w' => e = .returned (.tuple #[sv 0, .int .i64 93]) ∧ Below w.heap.size w w' := by
  obtain ⟨w1, hw1⟩ : ∃ w1, w1 = w.alloc (.cells #[.int .u64 0] 42) := ⟨_, rfl⟩
  obtain ⟨b1, hb1⟩ : ∃ b, b = w.heap.size := ⟨_, rfl⟩
  have k1 : w1.cell? ⟨b1, 0, none⟩ = some (.int .u64 0) ∧ w1.frozen? ⟨b1, 0, none⟩ = false := by rw [hw1, hb1]; exact ⟨box_cell _ _ _, by simp⟩
  have hlt : b1 < w1.heap.size := by rw [hw1, hb1]; simp
  have hle : w.heap.size ≤ b1 := by omega
  have B1 : Below w.heap.size w w1 := by rw [hw1]; exact bal (b0 _) _
  have h1 := h.step (Step.ofBelow (I := fun _ => False) o B1) id id
  have HB1 : Hid (b1 = w.heap.size) := hb1
  clear hb1
  go_enter Tryd.func13, Tryd.ntmps13
  go_wp2_with fail
  rw [← hw1, ← HB1.out]
  clear hw1 HB1
  refine (has9 _ o L p m F s h1 hs).mono ?_
  rw [hf]
  rintro e w2 ⟨rfl, hb2⟩
  have k2 := (hb2.cell (p := ⟨b1, 0, none⟩) hlt).trans k1.1
  have k3 := (hb2.frozen (p := ⟨b1, 0, none⟩) hlt).trans k1.2
  have kr : (w2.setCell ⟨b1, 0, none⟩ (.int .u64 0)).cell? ⟨b1, 0, none⟩ = some (.int .u64 0) := World.cell?_setCell_same _ _ _ k2
  have RR := (bjoin B1 hb2).setCell (p := ⟨b1, 0, none⟩) hle (.int .u64 0)
  clear h h1 hf hb2 B1 k1
  go_wp2
  exact bodyPost_ret (v := .tuple #[sv 0, .int .i64 93]) (by simp [results, Tryd.results13, go_sem, kr]) rfl ⟨rfl, RR⟩
theorem get_ok (w : World) (o : Nat → Nat) (L p m : Nat) (F : ByteArray → Option Nat) (s : ByteArray) (x : Nat) (h : Fam w o L p m F) (hs : s.size ≤ maxLen) (hf : F s = some x) :
    Calls Tryd.prog 13 #[.pointer (some ⟨p, 0, none⟩), .string s] w fun e w' => e = .returned (.tuple #[sv x, .int .i64 0]) ∧ Below w.heap.size w w' := by
  obtain ⟨w1, hw1⟩ : ∃ w1, w1 = w.alloc (.cells #[.int .u64 0] 42) := ⟨_, rfl⟩
  obtain ⟨b1, hb1⟩ : ∃ b, b = w.heap.size := ⟨_, rfl⟩
  have k1 : w1.cell? ⟨b1, 0, none⟩ = some (.int .u64 0) ∧ w1.frozen? ⟨b1, 0, none⟩ = false := by rw [hw1, hb1]; exact ⟨box_cell _ _ _, by simp⟩
  have hlt : b1 < w1.heap.size := by rw [hw1, hb1]; simp
  have hle : w.heap.size ≤ b1 := by omega
  have B1 : Below w.heap.size w w1 := by rw [hw1]; exact bal (b0 _) _
  have h1 := h.step (Step.ofBelow (I := fun _ => False) o B1) id id
  have HB1 : Hid (b1 = w.heap.size) := hb1
  clear hb1
  go_enter Tryd.func13, Tryd.ntmps13
  go_wp2_with fail
  rw [← hw1, ← HB1.out]
  clear hw1 HB1
  refine (has9 _ o L p m F s h1 hs).mono ?_
  rw [hf]
  rintro e w2 ⟨rfl, hb2⟩
  have k2 := (hb2.cell (p := ⟨b1, 0, none⟩) hlt).trans k1.1
  have k3 := (hb2.frozen (p := ⟨b1, 0, none⟩) hlt).trans k1.2
  have kr : (w2.setCell ⟨b1, 0, none⟩ (.int .u64 (x : Nat))).cell? ⟨b1, 0, none⟩ = some (.int .u64 (x : Nat)) := World.cell?_setCell_same _ _ _ k2
  have RR := (bjoin B1 hb2).setCell (p := ⟨b1, 0, none⟩) hle (.int .u64 (x : Nat))
  obtain ⟨bm, hB, hM⟩ := h1.step (Step.ofBelow (I := fun _ => False) o hb2) id id
  have c0 := hB.cell1.1
  have hlk := hM.look hs hf
  clear h h1 hf hb2 B1 k1 hB hM
  go_wp2
  exact bodyPost_ret (v := .tuple #[sv x, .int .i64 0]) (by simp [results, Tryd.results13, go_sem, kr]) rfl ⟨rfl, RR⟩
end Go.Proofs.YtmpkhbblakfglaaDoor
