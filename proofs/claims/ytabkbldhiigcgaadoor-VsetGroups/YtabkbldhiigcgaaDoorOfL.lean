/- The laws' own way to make a set of raw numbers. -/
import Derived.Test.YtabkbldhiigcgaaDoorLaw9
namespace Go.Proofs.YtabkbldhiigcgaaDoor
open Go.ChangeShapes Go.WideShapes Go.ChangeAt Go.RowKit Go.Maps
set_option linter.unusedVariables false

def z9 : Nat → Nat := fun _ => 0
/-- The numbers that the first list has behind k rounds: those of every third place. -/
def firstL (f : Nat → Int) : Nat → List Nat
  | 0 => []
  | k + 1 => if k % 3 = 0 then firstL f k ++ [pk (f k) 64] else firstL f k
theorem firstL_len (f : Nat → Int) : ∀ k, (firstL f k).length ≤ k
  | 0 => Nat.le_refl _
  | k + 1 => by have := firstL_len f k; unfold firstL; split <;> simp <;> omega
theorem firstL_mem (f : Nat → Int) (i : Nat) : ∀ k, i ∈ firstL f k ↔ ∃ j, j < k ∧ j % 3 = 0 ∧ pk (f j) 64 = i
  | 0 => by simp [firstL]
  | k + 1 => by
    unfold firstL
    split
    · rename_i h3
      rw [List.mem_append, firstL_mem f i k, List.mem_singleton]
      constructor
      · rintro (⟨j, h1, h2⟩ | h)
        · exact ⟨j, by omega, h2⟩
        · exact ⟨k, by omega, h3, h.symm⟩
      · rintro ⟨j, h1, h2, h4⟩
        by_cases e : j = k
        · subst e; exact .inr h4.symm
        · exact .inl ⟨j, by omega, h2, h4⟩
    · rename_i h3
      rw [firstL_mem f i k]
      constructor
      · rintro ⟨j, h1, h2⟩; exact ⟨j, by omega, h2⟩
      · rintro ⟨j, h1, h2, h4⟩
        by_cases e : j = k
        · subst e; exact absurd h2 h3
        · exact ⟨j, by omega, h2, h4⟩
theorem firstL_lt (f : Nat → Int) (k : Nat) : ∀ x, x ∈ firstL f k → x < 64 := fun x hx => by
  obtain ⟨j, _, _, rfl⟩ := (firstL_mem f x k).1 hx
  exact pk_lt _ _ (by omega)
/-- The set behind k rounds of the second loop, from x. -/
def restS (f : Nat → Int) (x : Nat) : Nat → Nat
  | 0 => x
  | k + 1 => if k % 3 = 0 then restS f x k else restS f x k ||| bt (pk (f k) 64)
theorem restS_lt (f : Nat → Int) (x : Nat) (hx : x < top64) : ∀ k, restS f x k < top64
  | 0 => hx
  | k + 1 => by unfold restS; split; exact restS_lt f x hx k; exact or_lt (restS_lt f x hx k) (bt_lt (pk_lt _ _ (by omega)))
theorem restS_bit (f : Nat → Int) (x i : Nat) : ∀ k, (restS f x k).testBit i = true ↔ x.testBit i = true ∨ ∃ j, j < k ∧ ¬ j % 3 = 0 ∧ pk (f j) 64 = i
  | 0 => by simp [restS]
  | k + 1 => by
    unfold restS
    split
    · rename_i h3
      rw [restS_bit f x i k]
      constructor
      · rintro (h | ⟨j, h1, h2⟩)
        · exact .inl h
        · exact .inr ⟨j, by omega, h2⟩
      · rintro (h | ⟨j, h1, h2, h4⟩)
        · exact .inl h
        · exact .inr ⟨j, by have : j ≠ k := fun e => h2 (e ▸ h3); omega, h2, h4⟩
    · rename_i h3
      rw [Nat.testBit_or, Bool.or_eq_true, restS_bit f x i k, bt_bit, decide_eq_true_iff]
      constructor
      · rintro ((h | ⟨j, h1, h2⟩) | h)
        · exact .inl h
        · exact .inr ⟨j, by omega, h2⟩
        · exact .inr ⟨k, by omega, h3, h⟩
      · rintro (h | ⟨j, h1, h2, h4⟩)
        · exact .inl (.inl h)
        · by_cases e : j = k
          · subst e; exact .inr h4
          · exact .inl (.inr ⟨j, by omega, h2, h4⟩)
/-- What 'of' makes: the numbers that the first hundred speak of. -/
def OfL (f : Nat → Int) (n x : Nat) : Prop := x < top64 ∧ ∀ i, x.testBit i = true ↔ ∃ j, j < n ∧ j < 100 ∧ pk (f j) 64 = i

set_option maxHeartbeats 4000000 in
theorem ofl_c (w : World) (ao : Option Addr) (n cap : Nat) (f : Nat → Int) (h : Ints w ao n f) (hn : n ≤ maxLen) :
    Calls Tryd.prog 13 #[.slice ao n cap] w fun e w' => ∃ x, e = .returned (sv x) ∧ OfL f n x ∧ Below w.heap.size w w' := by
  have s0 := newStep (fun k => k = 1 ∨ k = 2) w z9 2 (.cells #[.int .u64 0] 27)
  have B0 : Blk (w.alloc (.cells #[.int .u64 0] 27)) (newLab w z9 2) 2 w.heap.size (.cells #[.int .u64 0] 27 (0, 0)) := ⟨heap_alloc_new w _, newLab_new (Nat.le_refl _)⟩
  obtain ⟨b2, hb2⟩ : ∃ b, b = w.heap.size := ⟨_, rfl⟩
  have HB2 : Hid (b2 = w.heap.size) := hb2
  have hle : w.heap.size ≤ b2 := by omega
  rw [← hb2] at B0
  generalize newLab w z9 2 = o1 at s0 B0
  obtain ⟨w1, hw1⟩ : ∃ w1, w1 = w.alloc (.cells #[.int .u64 0] 27) := ⟨_, rfl⟩
  rw [← hw1] at s0 B0
  have old : ∀ k, k < w.heap.size → ¬ (z9 k = 1 ∨ z9 k = 2) := fun k _ h => by simp [z9] at h
  unfold maxLen at hn
  clear hb2
  go_enter Tryd.func13, Tryd.ntmps13
  go_upto_block 0 with fail
  rw [← hw1, ← HB2.out]
  clear hw1 HB2
  go_cut [3] (fun v3 wx => ∃ o', Row wx o' 1 3 1 v3 (firstL f (min n 100)).length (intsL (firstL f (min n 100))) ∧ Blk wx o' 2 b2 (.cells #[.int .u64 0] 27 (0, 0)) ∧ Step (fun k => k = 1 ∨ k = 2) w z9 wx o')
  case first =>
    go_wp2_with fail
    go_loopw [3, 4] (fun v3 v4 wr => ∃ (k : Nat) (o' : Nat → Nat), k ≤ n ∧ k ≤ 100 ∧ v4 = .int .i64 (k : Nat) ∧ Row wr o' 1 3 1 v3 (firstL f k).length (intsL (firstL f k)) ∧ Blk wr o' 2 b2 (.cells #[.int .u64 0] 27 (0, 0)) ∧ Step (fun k => k = 1 ∨ k = 2) w z9 wr o') (fun _ v4 _ => n - (intOf v4).toNat)
    case atStart => exact ⟨0, o1, by omega, by omega, by go_num, Row.nil _ _ _ _ _, B0, s0⟩
    case round =>
      obtain ⟨k, o', hk, hk1, rfl, hR, hB, hS⟩ := hrel
      clear B0 s0
      by_cases hlt : k < n ∧ k < 100
      · obtain ⟨hlt1, hlt2⟩ := hlt
        have g1 : (k : Int) < (n : Int) := by omega
        have g2 : (k : Int) < 100 := by omega
        obtain ⟨bb, off, rfl, hbb, hc0, hi1, hi2⟩ := h k hlt1
        have hc := ((hS.below old).cell (p := ⟨bb, off + k, none⟩) hbb).trans hc0
        have hfl := firstL_len f k
        by_cases h3 : k % 3 = 0
        · have e3 : (k : Int).tmod 3 = 0 := by rw [Int.tmod_eq_emod_of_nonneg (by omega)]; omega
          have e4 : IntKind.i64.wrap ((k : Int).tmod 3) = 0 := by rw [e3]; rfl
          have hnx : firstL f (k + 1) = firstL f k ++ [pk (f k) 64] := by show (if k % 3 = 0 then _ else _) = _; rw [if_pos h3]
          have HNX : Hid (firstL f (k + 1) = firstL f k ++ [pk (f k) 64]) := hnx
          clear hnx hc0
          have hpk := pk_lt (f k) 64 (by omega)
          have hpc := pick_c (f k) 64
          generalize f k = fk at hc hi1 hi2 HNX hpk hpc
          generalize pk fk 64 = m at HNX hpk hpc
          obtain ⟨ii, hii, hzi0, hzi1, hzi2⟩ := info_parts infoInt
          go_wp2_with fail
          refine (hpc _ hi1 hi2 (by omega) (by omega)).mono ?_
          rintro e w2 ⟨rfl, rfl⟩
          go_wp2_with (first | (at_builtin; refine wpList_append_lab rfl (.tmp 23) (.tmp 29) 37 rfl 3 ii (.int .i64 0) 1 8 Tryd.underlying37 hii hzi0 hzi1 hzi2 rfl (by decide) o' 1 _ (firstL f k).length (intsL (firstL f k)) rfl (hR.step (allocStep (fun _ => False) _ o' _) (by simp)) ⟨w2.heap.size, 0, none⟩ 1 1 [.int .i64 (m : Nat)] rfl rfl ?c1 ?c2 (by decide) ?c3 ?c4 ?_) | go_in)
          case c1 => exact new_one _ _ _
          case c2 => intro u hu; simp at hu; subst hu; rfl
          case c3 => unfold maxLen; omega
          case c4 => omega
          intro g cap3 w3 o3 R3 s3'
          have s3 : Step (fun k => k = 1) w2 o' w3 o3 := (allocStep _ w2 o' _).trans s3'
          have B3 := hB.step s3 (by omega)
          have S3 := hS.trans (s3.mono fun _ h => .inl h)
          have R4 : Row w3 o3 1 3 1 (.slice (some ⟨g, 0, none⟩) ((firstL f k).length + 1) cap3) (firstL f (k + 1)).length (intsL (firstL f (k + 1))) := by
            rw [HNX.out]
            simpa [intsL] using R3
          clear s3' hR hB hS hc s3 R3 HNX hpc
          go_wp2
          go_roundw
          case rel => (try ((repeat apply Exists.intro); refine ⟨?_, rfl⟩)); exact ⟨k + 1, o3, by omega, by omega, by go_num, R4, B3, S3⟩
          case measure => simp [intOf]; omega
        · have e3 : ¬ (k : Int).tmod 3 = 0 := by rw [Int.tmod_eq_emod_of_nonneg (by omega)]; omega
          have hnx : firstL f (k + 1) = firstL f k := by show (if k % 3 = 0 then _ else _) = _; rw [if_neg h3]
          rw [← hnx] at hR
          clear hnx hc0 hc
          go_wp2
          go_roundw
          case rel => (try ((repeat apply Exists.intro); refine ⟨?_, rfl⟩)); exact ⟨k + 1, o', by omega, by omega, by go_num, hR, hB, hS⟩
          case measure => simp [intOf]; omega
      · have hkm : k = min n 100 := by omega
        rw [hkm] at hR
        by_cases hlt1 : k < n
        · have g1 : (k : Int) < (n : Int) := by omega
          have g2 : ¬ (k : Int) < 100 := by omega
          clear hlt hkm
          go_wp2
          go_meet
          exact ⟨o', hR, hB, hS⟩
        · have g1 : ¬ (k : Int) < (n : Int) := by omega
          clear hlt hkm
          go_wp2
          go_meet
          exact ⟨o', hR, hB, hS⟩
  case rest =>
  clear B0 s0
  obtain ⟨o', hR, hB, hS⟩ := hcut
  obtain ⟨a3, c3, rfl, hI⟩ := hR.ints (fun x hx => Nat.le_of_lt (Nat.lt_trans (firstL_lt f _ x hx) (by omega)))
  have hfl := firstL_len f (min n 100)
  have hfb : ∀ j, j < (firstL f (min n 100)).length → (firstL f (min n 100)).getD j 0 ∈ firstL f (min n 100) := fun j hj => by
    simp [List.getD, List.getElem?_eq_getElem hj]
  have hof := of_c wc a3 (firstL f (min n 100)).length c3 _ hI (by unfold maxLen; omega)
  have OFB : Hid (∀ s er, OfOut (fun j => ((firstL f (min n 100)).getD j 0 : Nat)) (firstL f (min n 100)).length s er → er = 0 ∧ s < top64 ∧ ∀ i, s.testBit i = true ↔ ∃ j, j < min n 100 ∧ j % 3 = 0 ∧ pk (f j) 64 = i) := fun s er ho => by
    rcases ho with ⟨h1, h2, h3⟩ | ⟨h1, h2, j, hj, h3⟩
    · refine ⟨h1, h3 ▸ ofs_lt _ _ h2, fun i => ?_⟩
      rw [h3, ofs_bit, ← firstL_mem f i (min n 100)]
      constructor
      · rintro ⟨j, hj, e⟩
        have := hfb j hj
        simp only [Int.toNat_natCast] at e
        rw [e] at this
        exact this
      · intro hm
        obtain ⟨j, hj, e⟩ := List.getElem_of_mem hm
        exact ⟨j, hj, by simp [List.getD, List.getElem?_eq_getElem hj, e]⟩
    · have h4 := firstL_lt f _ _ (hfb j hj)
      have h5 : (((firstL f (min n 100)).getD j 0 : Nat) : Int) < 0 ∨ 63 < (((firstL f (min n 100)).getD j 0 : Nat) : Int) := h3
      omega
  generalize (firstL f (min n 100)).length = ln at hof OFB
  clear hR hI hfl hfb
  go_wp2_with fail
  refine hof.mono ?_
  rintro e w4 ⟨x, er, rfl, hO, hb4⟩
  obtain ⟨rfl, hx, hxb⟩ := OFB.out x er hO
  clear OFB hO hof
  have sB : Step (fun k => k = 1 ∨ k = 2) wc o' w4 o' := Step.ofBelow o' hb4
  have s5 := newStep (fun k => k = 1 ∨ k = 2) w4 o' 3 (.cells #[.int .u64 (x : Nat)] 27)
  have B5 : Blk (w4.alloc (.cells #[.int .u64 (x : Nat)] 27)) (newLab w4 o' 3) 3 w4.heap.size (.cells #[.int .u64 (x : Nat)] 27 (0, 0)) := ⟨heap_alloc_new w4 _, newLab_new (Nat.le_refl _)⟩
  have B2 := (hB.step (Step.ofBelow (I := fun _ => False) o' hb4) id).step (newStep (fun _ => False) w4 o' 3 (.cells #[.int .u64 (x : Nat)] 27)) id
  have S5 := (hS.trans sB).trans s5
  obtain ⟨b5, hb5⟩ : ∃ b, b = w4.heap.size := ⟨_, rfl⟩
  have HB5 : Hid (b5 = w4.heap.size) := hb5
  have hle5 : w.heap.size ≤ b5 := by rw [hb5]; exact Nat.le_trans hS.size hb4.size
  rw [← hb5] at B5
  generalize newLab w4 o' 3 = o5 at B5 B2 S5
  obtain ⟨w5, hw5⟩ : ∃ w5, w5 = w4.alloc (.cells #[.int .u64 (x : Nat)] 27) := ⟨_, rfl⟩
  rw [← hw5] at B5 B2 S5
  have J5 : OfJ w w5 b2 b5 x := ⟨B5.cell1.1, B5.cell1.2 0, B2.cell1.1, B2.cell1.2 0, B2.lt, B5.lt, S5.below old⟩
  have hne : b2 ≠ b5 := fun e => by have h1 := B5.2; have h2 := B2.2; rw [e] at h2; omega
  clear hb5 B5 B2 S5 s5 sB hb4 hB hS
  go_wp2_with fail
  rw [← hw5, ← HB5.out]
  clear hw5 HB5
  go_loopw [7] (fun v7 wr => ∃ k : Nat, k ≤ n ∧ k ≤ 100 ∧ v7 = .int .i64 (k : Nat) ∧ OfJ w wr b2 b5 (restS f x k)) (fun v7 _ => n - (intOf v7).toNat)
  case atStart => exact ⟨0, by omega, by omega, by go_num, J5⟩
  case round =>
    obtain ⟨k, hk, hk1, rfl, c5, f5, c2, f2, l2, l5, BB⟩ := hrel
    clear J5
    by_cases hlt : k < n ∧ k < 100
    · obtain ⟨hlt1, hlt2⟩ := hlt
      have g1 : (k : Int) < (n : Int) := by omega
      have g2 : (k : Int) < 100 := by omega
      obtain ⟨bb, off, rfl, hbb, hc0, hi1, hi2⟩ := h k hlt1
      have hc := (BB.cell (p := ⟨bb, off + k, none⟩) hbb).trans hc0
      have hrl := restS_lt f x hx k
      by_cases h3 : k % 3 = 0
      · have e3 : (k : Int).tmod 3 = 0 := by rw [Int.tmod_eq_emod_of_nonneg (by omega)]; omega
        have e4 : IntKind.i64.wrap ((k : Int).tmod 3) = 0 := by rw [e3]; rfl
        have hnx : restS f x (k + 1) = restS f x k := by show (if k % 3 = 0 then _ else _) = _; rw [if_pos h3]
        have RR : OfJ w wr b2 b5 (restS f x (k + 1)) := by rw [hnx]; exact ⟨c5, f5, c2, f2, l2, l5, BB⟩
        clear hnx hc0 hc
        go_wp2
        go_roundw
        case rel => (try ((repeat apply Exists.intro); refine ⟨?_, rfl⟩)); exact ⟨k + 1, by omega, by omega, by go_num, RR⟩
        case measure => simp [intOf]; omega
      · have e3 : 0 < (k : Int).tmod 3 := by rw [Int.tmod_eq_emod_of_nonneg (by omega)]; omega
        have e4 : 0 < IntKind.i64.wrap ((k : Int).tmod 3) := by rw [IntKind.wrap_i64, Int.tmod_eq_emod_of_nonneg (by omega)]; omega
        have hnx : restS f x (k + 1) = restS f x k ||| bt (pk (f k) 64) := by show (if k % 3 = 0 then _ else _) = _; rw [if_neg h3]
        have HNX : Hid (restS f x (k + 1) = restS f x k ||| bt (pk (f k) 64)) := hnx
        clear hnx hc0
        have hpk := pk_lt (f k) 64 (by omega)
        have hpc : ∀ w, Calls Tryd.prog 14 #[.int .i64 (f k), .int .i64 64] w fun e w' => e = .returned (.int .i64 (pk (f k) 64 : Nat)) ∧ w' = w := fun w => pick_c (f k) 64 w hi1 hi2 (by omega) (by omega)
        generalize f k = fk at hc hi1 hi2 HNX hpk hpc
        generalize pk fk 64 = m at HNX hpk hpc
        generalize restS f x k = y at *
        have hwi : ∀ w, Calls Tryd.prog 20 #[sv y, .int .i64 m] w fun e w' => e = .returned (.tuple #[sv (y ||| bt m), .int .i64 0]) ∧ Below w.heap.size w w' := fun w => with_yes y m w hrl hpk
        generalize y ||| bt m = z at HNX hwi
        have hbw : bb < wr.heap.size := Nat.lt_of_lt_of_le hbb BB.size
        go_upto_region 12 with fail
        go_cut [8, 9] (fun v8 v9 wx => ∃ b8, v8 = .pointer (some ⟨b8, 0, none⟩) ∧ v9 = .int .i64 0 ∧ wx.cell? ⟨b8, 0, none⟩ = some (.int .u64 (z : Nat)) ∧ Below wr.heap.size wr wx)
        case first =>
          have hlt2 : b5 < (wr.alloc (.cells #[.int .u64 0] 27)).heap.size := Nat.lt_of_lt_of_le l5 (bal (b0 wr) _).size
          have hlt3 : bb < (wr.alloc (.cells #[.int .u64 0] 27)).heap.size := Nat.lt_of_lt_of_le hbw (bal (b0 wr) _).size
          have ky : wr.cell? ⟨b5, 0, none⟩ = some (.int .u64 (y : Nat)) ∧ wr.cell? ⟨bb, off + k, none⟩ = some (.int .i64 fk) := ⟨c5, hc⟩
          have ky2 : (wr.alloc (.cells #[.int .u64 0] 27)).cell? ⟨b5, 0, none⟩ = some (.int .u64 (y : Nat)) ∧ (wr.alloc (.cells #[.int .u64 0] 27)).cell? ⟨bb, off + k, none⟩ = some (.int .i64 fk) := ⟨((bal (b0 wr) _).cell (p := ⟨b5, 0, none⟩) l5).trans c5, ((bal (b0 wr) _).cell (p := ⟨bb, off + k, none⟩) hbw).trans hc⟩
          have ne1 := World.new_ne wr _ c5
          have ne2 := World.new_ne wr _ hc
          go_wp2_with fail
          go_region_held3 (fun wx => wx.cell? ⟨b5, 0, none⟩ = some (.int .u64 (y : Nat)) ∧ wx.cell? ⟨bb, off + k, none⟩ = some (.int .i64 fk)) (first | (with_reducible exact ky) | (with_reducible exact ky2) | (with_reducible exact ks) | (with_reducible exact (ku _)) | go_keep) (first | (go_at_call 14; refine (hpc _).mono ?_; rintro e w3 ⟨rfl, rfl⟩) | (go_at_call 20; refine Calls.mono (hwi wr.drew) ?_; rintro e w4 ⟨rfl, hb4⟩; have ks : w4.cell? ⟨b5, 0, none⟩ = some (.int .u64 (y : Nat)) ∧ w4.cell? ⟨bb, off + k, none⟩ = some (.int .i64 fk) := ⟨(hb4.cell (p := ⟨b5, 0, none⟩) l5).trans c5, (hb4.cell (p := ⟨bb, off + k, none⟩) hbw).trans hc⟩; have ne3 := World.new_ne w4 _ ks.1; have ne4 := World.new_ne w4 _ ks.2; have BC := bjoin (b0 wr).drew hb4) | (go_at_call 20; refine Calls.mono (hwi (wr.alloc (.cells #[.int .u64 0] 27)).drew) ?_; rintro e w4 ⟨rfl, hb4⟩; obtain ⟨kA, kF, kL⟩ := new_box (w := wr) (t := 27) (w' := w4) ⟨hb4.os, hb4.tape, hb4.output, hb4.size, hb4.block⟩; have ks : w4.cell? ⟨b5, 0, none⟩ = some (.int .u64 (y : Nat)) ∧ w4.cell? ⟨bb, off + k, none⟩ = some (.int .i64 fk) := ⟨(hb4.cell (p := ⟨b5, 0, none⟩) hlt2).trans ky2.1, (hb4.cell (p := ⟨bb, off + k, none⟩) hlt3).trans ky2.2⟩; have ku := fun v => And.intro ((other_cell (w := w4) (Nat.ne_of_lt l5) v).trans ks.1) ((World.cell?_setCell_other _ _ _ _ (fun e => absurd (congrArg Addr.block e) (Nat.ne_of_lt hbw).symm)).trans ks.2 : (w4.setCell ⟨wr.heap.size, 0, none⟩ v).cell? ⟨bb, off + k, none⟩ = some (.int .i64 fk)); have BC := bjoin (bal (b0 wr) _).drew hb4))
          · go_wp2
            go_meet
            exact ⟨_, rfl, rfl, box_cell w4 _ _, bal BC _⟩
          all_goals
            go_wp2
            go_meet
            exact ⟨_, rfl, rfl, World.cell?_setCell_same _ _ _ kA, BC.setCell (p := ⟨wr.heap.size, 0, none⟩) (Nat.le_refl _) _⟩
        case rest =>
        clear hwi hpc
        obtain ⟨b8, rfl, rfl, hc8, hB8⟩ := hcut
        have d5 := (hB8.cell (p := ⟨b5, 0, none⟩) l5).trans c5
        have d5f := (hB8.frozen (p := ⟨b5, 0, none⟩) l5).trans f5
        have d2 := (hB8.cell (p := ⟨b2, 0, none⟩) l2).trans c2
        have d2f := (hB8.frozen (p := ⟨b2, 0, none⟩) l2).trans f2
        have RR : OfJ w (wc.setCell ⟨b5, 0, none⟩ (.int .u64 (z : Nat))) b2 b5 (restS f x (k + 1)) := by
          rw [HNX.out]
          exact ⟨World.cell?_setCell_same _ _ _ d5, by simpa using d5f, (other_cell hne _).trans d2, by simpa using d2f, by simpa using Nat.lt_of_lt_of_le l2 hB8.size, by simpa using Nat.lt_of_lt_of_le l5 hB8.size, (bjoin BB hB8).setCell (p := ⟨b5, 0, none⟩) hle5 _⟩
        clear HNX d2 d2f c5 f5 c2 f2 l2 l5 BB hB8 hc
        go_wp2
        go_roundw
        case rel => (try ((repeat apply Exists.intro); refine ⟨?_, rfl⟩)); exact ⟨k + 1, by omega, by omega, by go_num, RR⟩
        case measure => simp [intOf]; omega
    · have hkm : k = min n 100 := by omega
      have fin : OfL f n (restS f x k) := by
        refine ⟨restS_lt f x hx k, fun i => ?_⟩
        rw [restS_bit, hxb i, hkm]
        constructor
        · rintro (⟨j, h1, h2, h3⟩ | ⟨j, h1, h2, h3⟩)
          · exact ⟨j, by omega, by omega, h3⟩
          · exact ⟨j, by omega, by omega, h3⟩
        · rintro ⟨j, h1, h2, h3⟩
          by_cases h4 : j % 3 = 0
          · exact .inl ⟨j, by omega, h4, h3⟩
          · exact .inr ⟨j, by omega, h4, h3⟩
      generalize restS f x k = z at *
      have kr : (wr.setCell ⟨b2, 0, none⟩ (.int .u64 (z : Nat))).cell? ⟨b2, 0, none⟩ = some (.int .u64 (z : Nat)) := World.cell?_setCell_same _ _ _ c2
      have RR := BB.setCell (p := ⟨b2, 0, none⟩) hle (.int .u64 (z : Nat))
      by_cases hlt1 : k < n
      · have g1 : (k : Int) < (n : Int) := by omega
        have g2 : ¬ (k : Int) < 100 := by omega
        clear hlt hkm h hxb
        go_wp2
        exact bodyPost_ret (v := sv z) (by simp [results, Tryd.results13, go_sem, kr]) rfl ⟨z, rfl, fin, RR⟩
      · have g1 : ¬ (k : Int) < (n : Int) := by omega
        clear hlt hkm h hxb
        go_wp2
        exact bodyPost_ret (v := sv z) (by simp [results, Tryd.results13, go_sem, kr]) rfl ⟨z, rfl, fin, RR⟩
end Go.Proofs.YtabkbldhiigcgaaDoor
