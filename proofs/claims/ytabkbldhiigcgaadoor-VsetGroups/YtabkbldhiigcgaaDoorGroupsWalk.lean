/- The law VsetGroups, walked. -/
import Derived.Test.YtabkbldhiigcgaaDoorGroupsM
import Derived.Laws.Cover1
namespace Go.Proofs.YtabkbldhiigcgaaDoor
open Go.ChangeShapes Go.WideShapes Go.ChangeAt Go.RowKit Go.Maps
set_option linter.unusedVariables false
set_option linter.unusedSimpArgs false

/-- Lists of numbers that came in. -/
def IntsS (w : World) (ao : Option Addr) (n : Nat) (li : Nat → Option Addr × Nat × Nat) (f : Nat → Nat → Int) : Prop :=
  ∀ j, j < n → ∃ b off, ao = some ⟨b, off, none⟩ ∧ b < w.heap.size ∧ w.cell? ⟨b, off + j, none⟩ = some (.slice (li j).1 (li j).2.1 (li j).2.2) ∧ Ints w (li j).1 (li j).2.1 (f j) ∧ (li j).2.1 ≤ maxLen
/-- What the first loop keeps: the family of the names so far, and what their sets are without n. -/
def GroJ (w : World) (p k m : Nat) (xs : Nat → Nat) (vw : Value) (wr : World) (o : Nat → Nat) : Prop :=
  (∀ j, j < k → xs j < top64) ∧ Fam wr o 10 p k (fgo xs k) ∧ Row wr o 5 27 1 vw k ((List.range k).map fun j => .int .u64 (mns (xs j) (bt m) : Nat)) ∧ TzL wr o ∧ WdL wr o ∧ Step (fun k => k ≠ 0) w z9 wr o
theorem infoSet : (Tryd.prog.info? 27).map (fun i => (i.zero, i.size, i.bytes)) = some (some (.agg #[.int .u64 0]), 1, 8) := by kernel_rfl

theorem byte_of (k : Nat) (hk : k < 16) : ((UInt8.ofNat (97 + k)).toNat : Int) = 97 + (k : Int) := by
  rw [UInt8.toNat_ofNat']
  omega
theorem old9 (w : World) : ∀ k, k < w.heap.size → ¬ (z9 k ≠ 0) := fun k _ h => h rfl
theorem text_one (w : World) (k : Nat) (hk : k < 16) :
    (convert 71 9 (.slice (some ⟨w.heap.size, 0, none⟩) 1 1)).run Tryd.prog (w.alloc (.cells #[.int .u8 (97 + (k : Int))] 5)) = .ok (.string ⟨#[UInt8.ofNat (97 + k)]⟩) (w.alloc (.cells #[.int .u8 (97 + (k : Int))] 5)) :=
  run_convert_bytes_back _ 71 9 5 ⟨w.heap.size, 0, none⟩ 1 [UInt8.ofNat (97 + k)] Tryd.underlying71 Tryd.underlying5 Tryd.underlying9
    (fun j hj => by
      have e : j = 0 := by simp at hj; omega
      subst e
      have := byte_of k hk
      simp only [List.getElem_cons_zero]
      rw [this]
      simp [Addr.add])
theorem want_next (xs : Nat → Nat) (k x m z : Nat) (hz : mns x (bt m) = z) :
    ((List.range (k + 1)).map fun j => Value.int .u64 (mns ((fun j => if j = k then x else xs j) j) (bt m) : Nat)) = ((List.range k).map fun j => Value.int .u64 (mns (xs j) (bt m) : Nat)) ++ [.int .u64 (z : Nat)] := by
  rw [List.range_succ, List.map_append, List.map_cons, List.map_nil]
  have e0 : (fun j => if j = k then x else xs j) k = x := if_pos rfl
  rw [e0, hz]
  congr 1
  apply List.map_congr_left
  intro j hj
  have e1 : (fun j => if j = k then x else xs j) j = xs j := if_neg (by have := List.mem_range.1 hj; omega)
  rw [e1]
theorem cat_nm (k : Nat) : (⟨#[115]⟩ : ByteArray) ++ ⟨#[UInt8.ofNat (97 + k)]⟩ = nm9 k := by
  apply ByteArray.ext
  simp [nm9]
set_option maxHeartbeats 8000000 in
set_option maxRecDepth 100000 in
theorem groups_walk (w : World) (a0 : Option Addr) (n0 c0 : Nat) (li : Nat → Option Addr × Nat × Nat) (f0 : Nat → Nat → Int) (n : Int) (h0 : IntsS w a0 n0 li f0) (m0 : n0 ≤ maxLen)
    (hn1 : -9223372036854775808 ≤ n) (hn2 : n ≤ 9223372036854775807) (hT : Tz w) (hW : Wd w) :
    Calls Tryd.prog 7 #[.slice a0 n0 c0, .int .i64 n] w fun e w' => e = .returned (.bool true) ∧ Below w.heap.size w w' := by
  go_enter Tryd.func7, Tryd.ntmps7
  go_wp2_with fail
  refine (awake_c w hT hW).mono ?_
  rintro e w1 ⟨rfl, hb1⟩
  have T1 : TzL w1 z9 := ⟨hT.below hb1, rfl⟩
  have W1 : WdL w1 z9 := ⟨hW.below hb1, rfl⟩
  have s1 : Step (fun k => k ≠ 0) w z9 w1 z9 := Step.ofBelow z9 hb1
  clear hT hW hb1
  go_wp2_with fail
  refine (new9 w1 z9 10).mono ?_
  rintro e w2 ⟨p, o2, rfl, F2, s2⟩
  have T2 := T1.step s2 id
  have W2 := W1.step s2 id
  have S2 := s1.trans (s2.mono fun _ h => h.elim)
  clear T1 W1 s1 s2
  go_wp2_with fail
  refine (pick_c n 64 w2 hn1 hn2 (by omega) (by omega)).mono ?_
  rintro e w3 ⟨rfl, rfl⟩
  have hm := pk_lt n 64 (by omega)
  generalize pk n 64 = m at hm
  clear hn1 hn2
  unfold maxLen at m0
  have J0 : GroJ w p 0 m (fun _ => 0) (.slice none 0 0) w3 o2 := ⟨fun j hj => by omega, F2, Row.nil _ _ _ _ _, T2, W2, S2⟩
  clear F2 T2 W2 S2
  go_upto_block 0 with fail
  go_cut [7] (fun v7 wx => ∃ xs o', GroJ w p 16 m xs v7 wx o')
  case first =>
    go_wp2_with fail
    go_loopw [7, 8] (fun v7 v8 wr => ∃ (k : Nat) (xs : Nat → Nat) (o' : Nat → Nat), k ≤ 16 ∧ v8 = .int .i64 (k : Nat) ∧ GroJ w p k m xs v7 wr o') (fun _ v8 _ => 16 - (intOf v8).toNat)
    case atStart => exact ⟨0, fun _ => 0, o2, by omega, by go_num, J0⟩
    case round =>
      obtain ⟨k, xs, o', hk, rfl, hxs, hFm, hR, hTz, hWd, hS⟩ := hrel
      clear J0
      by_cases hlt : k < 16
      · have hkI : (k : Int) < 16 := by omega
        have hconv := text_one wr k hlt
        have hcat := cat_nm k
        have hbs : (⟨#[UInt8.ofNat (97 + k)]⟩ : ByteArray).size = 1 := rfl
        generalize hby : (⟨#[UInt8.ofNat (97 + k)]⟩ : ByteArray) = by9 at hconv hcat hbs
        clear hby
        have hnm := nm9_name k hlt
        have hns : (nm9 k).size ≤ maxLen := by rw [nm9_size]; unfold maxLen; omega
        have hfn := fgo_none xs k hlt
        have HFS : Hid (∀ x, updN (updN (fgo xs k) (nm9 k) (some 0)) (nm9 k) (some x) = fgo (fun j => if j = k then x else xs j) (k + 1)) := fun x => by
          show _ = updN (fgo (fun j => if j = k then x else xs j) k) (nm9 k) (some (if k = k then x else xs k))
          rw [updN_twice, if_pos rfl, fgo_ext (xs := xs) (ys := fun j => if j = k then x else xs j) k (fun j hj => by rw [if_neg (by omega)])]
        have s4 := newStep (fun _ => False) wr o' 6 (.cells #[.int .u8 (97 + (k : Int))] 5)
        have Fm4 := hFm.step s4 id id
        have R4 := hR.step s4 id
        have T4 := hTz.step s4 id
        have W4 := hWd.step s4 id
        have S4 := hS.trans (s4.mono fun _ h => h.elim)
        generalize newLab wr o' 6 = o4 at s4 Fm4 R4 T4 W4 S4
        obtain ⟨w4, hw4⟩ : ∃ v, v = wr.alloc (.cells #[.int .u8 (97 + (k : Int))] 5) := ⟨_, rfl⟩
        rw [← hw4] at Fm4 R4 T4 W4 S4
        go_upto_region 11 with fail
        rw [← hw4]
        clear hw4 hconv hcat s4 hFm hR hTz hWd hS
        generalize nm9 k = nm at *
        have s5 := newStep (fun _ => False) w4 o4 6 (.cells #[] 3)
        have Fm5 := Fm4.step s5 id id
        have R5 := R4.step s5 id
        have T5 := T4.step s5 id
        have W5 := W4.step s5 id
        have S5 := S4.trans (s5.mono fun _ h => h.elim)
        generalize newLab w4 o4 6 = o5 at s5 Fm5 R5 T5 W5 S5
        obtain ⟨b5, hb5⟩ : ∃ b, b = w4.heap.size := ⟨_, rfl⟩
        have HB5 : Hid (b5 = w4.heap.size) := hb5
        obtain ⟨w5, hw5⟩ : ∃ v, v = w4.alloc (.cells #[] 3) := ⟨_, rfl⟩
        rw [← hw5] at Fm5 R5 T5 W5 S5
        clear hb5 s5 Fm4 R4 T4 W4 S4
        go_upto_region 12 with fail
        rw [← hw5, ← HB5.out]
        clear hw5 HB5
        have ARG : ∃ (a : Option Addr) (l c : Nat) (f : Nat → Int), Ints w5 a l f ∧ l ≤ maxLen ∧ (if k < n0 then ∃ bb off, a0 = some ⟨bb, off, none⟩ ∧ w5.cell? ⟨bb, off + k, none⟩ = some (.slice a l c) else a = some ⟨b5, 0, none⟩ ∧ l = 0 ∧ c = 0) := by
          by_cases hl0 : k < n0
          · obtain ⟨bb, off, e1, hbb, hc0, hI, hIl⟩ := h0 k hl0
            exact ⟨(li k).1, (li k).2.1, (li k).2.2, f0 k, hI.below (S5.below (old9 w)) (Nat.le_refl _), hIl, by rw [if_pos hl0]; exact ⟨bb, off, e1, ((S5.below (old9 w)).cell (p := ⟨bb, off + k, none⟩) hbb).trans hc0⟩⟩
          · exact ⟨some ⟨b5, 0, none⟩, 0, 0, fun _ => 0, fun j hj => by omega, by unfold maxLen; omega, by rw [if_neg hl0]; exact ⟨rfl, rfl, rfl⟩⟩
        obtain ⟨a, l, c, f, hI, hIl, hcase⟩ := ARG
        by_cases hl0 : k < n0
        · have g0 : (k : Int) < (n0 : Int) := by omega
          rw [if_pos hl0] at hcase
          obtain ⟨bb, off, rfl, hc⟩ := hcase
          go_wp2_with fail
          refine (ofl_c w5 a l c f hI hIl).mono ?_
          rintro e w6 ⟨x, rfl, ⟨hxl, _⟩, g6⟩
          have s6 : Step (fun _ => False) w5 o5 w6 o5 := Step.ofBelow o5 g6
          have s7 := s6.trans (newStep (fun _ => False) w6 o5 6 (.cells #[.int .u64 (x : Nat)] 27))
          have K7 : Blk (w6.alloc (.cells #[.int .u64 (x : Nat)] 27)) (newLab w6 o5 6) 6 w6.heap.size (.cells #[.int .u64 (x : Nat)] 27 (0, 0)) := ⟨heap_alloc_new w6 _, newLab_new (Nat.le_refl _)⟩
          have Fm7 := Fm5.step s7 id id
          have R7 := R5.step s7 id
          have T7 := T5.step s7 id
          have W7 := W5.step s7 id
          have S7 := S5.trans (s7.mono fun _ h => h.elim)
          generalize newLab w6 o5 6 = o7 at s7 K7 Fm7 R7 T7 W7 S7
          obtain ⟨b11, hb11⟩ : ∃ b, b = w6.heap.size := ⟨_, rfl⟩
          have HB11 : Hid (b11 = w6.heap.size) := hb11
          rw [← hb11] at K7
          obtain ⟨w7, hw7⟩ : ∃ v, v = w6.alloc (.cells #[.int .u64 (x : Nat)] 27) := ⟨_, rfl⟩
          rw [← hw7] at K7 Fm7 R7 T7 W7 S7
          clear hb11 s6 s7 g6 Fm5 R5 T5 W5 S5 hI
          go_upto_region 15 with fail
          rw [← hw7, ← HB11.out]
          clear hw7 HB11
          have ad := add_ok w7 o7 10 p k (fgo xs k) nm Fm7 hns W7.1 hnm (by rw [hfn]; rfl) hlt
          go_wp2_with fail
          refine Calls.mono ad ?_
          rintro e w8 ⟨rfl, Fm8, s8⟩
          have K8 := K7.step s8 (by decide)
          have R8 := R7.step s8 (by decide)
          have T8 := T7.step s8 (by decide)
          have W8 := W7.step s8 (by decide)
          have S8 := S7.trans (s8.mono fun k h => by omega)
          have c8 := K8.cell1.1
          have ly := lay_ok w8 o7 10 p (k + 1) _ nm x Fm8 hns (by simp [updN]) (by omega)
          clear ad s8 K7 R7 T7 W7 S7 Fm7
          go_wp2_with fail
          refine Calls.mono ly ?_
          rintro e w9 ⟨rfl, Fm9, s9⟩
          rw [HFS.out] at Fm9
          have K9 := K8.step s9 (by decide)
          have R9 := R8.step s9 (by decide)
          have T9 := T8.step s9 (by decide)
          have W9 := W8.step s9 (by decide)
          have S9 := S8.trans (s9.mono fun k h => by omega)
          have c9 := K9.cell1.1
          clear ly s9 K8 R8 T8 W8 S8 Fm8 c8
          go_wp2_with fail
          refine (without_yes x m w9 hxl hm).mono ?_
          rintro e w10 ⟨rfl, g10⟩
          generalize hz : mns x (bt m) = z
          have s10 : Step (fun _ => False) w9 o7 w10 o7 := Step.ofBelow o7 g10
          have s11 := s10.trans (newStep (fun _ => False) w10 o7 6 (.cells #[.int .u64 (z : Nat)] 27))
          have K11 : Blk (w10.alloc (.cells #[.int .u64 (z : Nat)] 27)) (newLab w10 o7 6) 6 w10.heap.size (.cells #[.int .u64 (z : Nat)] 27 (0, 0)) := ⟨heap_alloc_new w10 _, newLab_new (Nat.le_refl _)⟩
          have Fm11 := Fm9.step s11 id id
          have R11 := R9.step s11 id
          have T11 := T9.step s11 id
          have W11 := W9.step s11 id
          have S11 := S9.trans (s11.mono fun _ h => h.elim)
          generalize newLab w10 o7 6 = o11 at s11 K11 Fm11 R11 T11 W11 S11
          obtain ⟨b12, hb12⟩ : ∃ b, b = w10.heap.size := ⟨_, rfl⟩
          have HB12 : Hid (b12 = w10.heap.size) := hb12
          rw [← hb12] at K11
          obtain ⟨w11, hw11⟩ : ∃ v, v = w10.alloc (.cells #[.int .u64 (z : Nat)] 27) := ⟨_, rfl⟩
          rw [← hw11] at K11 Fm11 R11 T11 W11 S11
          have HZ : Hid (mns x (bt m) = z) := hz
          have c11 := K11.cell1.1
          clear hb12 s10 s11 g10 K9 R9 T9 W9 S9 Fm9 c9 hz HFS
          go_upto_region 18 with fail
          rw [← hw11, ← HB12.out]
          clear hw11 HB12
          obtain ⟨ii, hii, hzi0, hzi1, hzi2⟩ := info_parts infoSet
          generalize hlst : ((List.range k).map fun j => Value.int .u64 (mns (xs j) (bt m) : Nat)) = lst at R11
          go_wp2_with (first | (at_builtin; refine wpList_append_lab rfl (.tmp 74) (.tmp 76) 70 rfl 27 ii (.agg #[.int .u64 0]) 1 8 Tryd.underlying70 hii hzi0 hzi1 hzi2 rfl (by decide) o11 5 _ k lst rfl (R11.step (allocStep (fun _ => False) _ o11 _) (by simp)) ⟨w11.heap.size, 0, none⟩ 1 1 [.int .u64 (z : Nat)] rfl rfl ?c1 ?c2 (by decide) ?c3 ?c4 ?_) | go_in)
          case c1 => exact new_one _ _ _
          case c2 => intro u hu; simp at hu; subst hu; rfl
          case c3 => unfold maxLen; omega
          case c4 => omega
          intro g13 cap13 w13 o13 R13 s13'
          have s13 : Step (fun k => k = 5) w11 o11 w13 o13 := (allocStep _ w11 o11 _).trans s13'
          have RR : GroJ w p (k + 1) m (fun j => if j = k then x else xs j) (.slice (some ⟨g13, 0, none⟩) (k + 1) cap13) w13 o13 := by
            refine ⟨fun j hj => ?_, Fm11.step s13 (by decide) (by decide), ?_, T11.step s13 (by decide), W11.step s13 (by decide), S11.trans (s13.mono fun k h => by omega)⟩
            · show (if j = k then x else xs j) < top64
              split
              · exact hxl
              · exact hxs j (by omega)
            · have e1 := want_next xs k x m z HZ.out
              rw [hlst] at e1
              rw [e1]
              exact R13
          clear s13' s13 R13 R11 T11 W11 S11 Fm11 K11 HZ hlst c11
          go_wp2
          go_roundw
          case rel => (try ((repeat apply Exists.intro); refine ⟨?_, rfl⟩)); exact ⟨k + 1, fun j => if j = k then x else xs j, o13, by omega, by go_num, RR⟩
          case measure => simp [intOf]; omega
        · have g0 : ¬ (k : Int) < (n0 : Int) := by omega
          rw [if_neg hl0] at hcase
          obtain ⟨rfl, rfl, rfl⟩ := hcase
          go_wp2_with fail
          refine (ofl_c w5 _ 0 0 f hI hIl).mono ?_
          rintro e w6 ⟨x, rfl, ⟨hxl, _⟩, g6⟩
          have s6 : Step (fun _ => False) w5 o5 w6 o5 := Step.ofBelow o5 g6
          have s7 := s6.trans (newStep (fun _ => False) w6 o5 6 (.cells #[.int .u64 (x : Nat)] 27))
          have K7 : Blk (w6.alloc (.cells #[.int .u64 (x : Nat)] 27)) (newLab w6 o5 6) 6 w6.heap.size (.cells #[.int .u64 (x : Nat)] 27 (0, 0)) := ⟨heap_alloc_new w6 _, newLab_new (Nat.le_refl _)⟩
          have Fm7 := Fm5.step s7 id id
          have R7 := R5.step s7 id
          have T7 := T5.step s7 id
          have W7 := W5.step s7 id
          have S7 := S5.trans (s7.mono fun _ h => h.elim)
          generalize newLab w6 o5 6 = o7 at s7 K7 Fm7 R7 T7 W7 S7
          obtain ⟨b11, hb11⟩ : ∃ b, b = w6.heap.size := ⟨_, rfl⟩
          have HB11 : Hid (b11 = w6.heap.size) := hb11
          rw [← hb11] at K7
          obtain ⟨w7, hw7⟩ : ∃ v, v = w6.alloc (.cells #[.int .u64 (x : Nat)] 27) := ⟨_, rfl⟩
          rw [← hw7] at K7 Fm7 R7 T7 W7 S7
          clear hb11 s6 s7 g6 Fm5 R5 T5 W5 S5 hI
          go_upto_region 15 with fail
          rw [← hw7, ← HB11.out]
          clear hw7 HB11
          have ad := add_ok w7 o7 10 p k (fgo xs k) nm Fm7 hns W7.1 hnm (by rw [hfn]; rfl) hlt
          go_wp2_with fail
          refine Calls.mono ad ?_
          rintro e w8 ⟨rfl, Fm8, s8⟩
          have K8 := K7.step s8 (by decide)
          have R8 := R7.step s8 (by decide)
          have T8 := T7.step s8 (by decide)
          have W8 := W7.step s8 (by decide)
          have S8 := S7.trans (s8.mono fun k h => by omega)
          have c8 := K8.cell1.1
          have ly := lay_ok w8 o7 10 p (k + 1) _ nm x Fm8 hns (by simp [updN]) (by omega)
          clear ad s8 K7 R7 T7 W7 S7 Fm7
          go_wp2_with fail
          refine Calls.mono ly ?_
          rintro e w9 ⟨rfl, Fm9, s9⟩
          rw [HFS.out] at Fm9
          have K9 := K8.step s9 (by decide)
          have R9 := R8.step s9 (by decide)
          have T9 := T8.step s9 (by decide)
          have W9 := W8.step s9 (by decide)
          have S9 := S8.trans (s9.mono fun k h => by omega)
          have c9 := K9.cell1.1
          clear ly s9 K8 R8 T8 W8 S8 Fm8 c8
          go_wp2_with fail
          refine (without_yes x m w9 hxl hm).mono ?_
          rintro e w10 ⟨rfl, g10⟩
          generalize hz : mns x (bt m) = z
          have s10 : Step (fun _ => False) w9 o7 w10 o7 := Step.ofBelow o7 g10
          have s11 := s10.trans (newStep (fun _ => False) w10 o7 6 (.cells #[.int .u64 (z : Nat)] 27))
          have K11 : Blk (w10.alloc (.cells #[.int .u64 (z : Nat)] 27)) (newLab w10 o7 6) 6 w10.heap.size (.cells #[.int .u64 (z : Nat)] 27 (0, 0)) := ⟨heap_alloc_new w10 _, newLab_new (Nat.le_refl _)⟩
          have Fm11 := Fm9.step s11 id id
          have R11 := R9.step s11 id
          have T11 := T9.step s11 id
          have W11 := W9.step s11 id
          have S11 := S9.trans (s11.mono fun _ h => h.elim)
          generalize newLab w10 o7 6 = o11 at s11 K11 Fm11 R11 T11 W11 S11
          obtain ⟨b12, hb12⟩ : ∃ b, b = w10.heap.size := ⟨_, rfl⟩
          have HB12 : Hid (b12 = w10.heap.size) := hb12
          rw [← hb12] at K11
          obtain ⟨w11, hw11⟩ : ∃ v, v = w10.alloc (.cells #[.int .u64 (z : Nat)] 27) := ⟨_, rfl⟩
          rw [← hw11] at K11 Fm11 R11 T11 W11 S11
          have HZ : Hid (mns x (bt m) = z) := hz
          have c11 := K11.cell1.1
          clear hb12 s10 s11 g10 K9 R9 T9 W9 S9 Fm9 c9 hz HFS
          go_upto_region 18 with fail
          rw [← hw11, ← HB12.out]
          clear hw11 HB12
          obtain ⟨ii, hii, hzi0, hzi1, hzi2⟩ := info_parts infoSet
          generalize hlst : ((List.range k).map fun j => Value.int .u64 (mns (xs j) (bt m) : Nat)) = lst at R11
          go_wp2_with (first | (at_builtin; refine wpList_append_lab rfl (.tmp 74) (.tmp 76) 70 rfl 27 ii (.agg #[.int .u64 0]) 1 8 Tryd.underlying70 hii hzi0 hzi1 hzi2 rfl (by decide) o11 5 _ k lst rfl (R11.step (allocStep (fun _ => False) _ o11 _) (by simp)) ⟨w11.heap.size, 0, none⟩ 1 1 [.int .u64 (z : Nat)] rfl rfl ?c1 ?c2 (by decide) ?c3 ?c4 ?_) | go_in)
          case c1 => exact new_one _ _ _
          case c2 => intro u hu; simp at hu; subst hu; rfl
          case c3 => unfold maxLen; omega
          case c4 => omega
          intro g13 cap13 w13 o13 R13 s13'
          have s13 : Step (fun k => k = 5) w11 o11 w13 o13 := (allocStep _ w11 o11 _).trans s13'
          have RR : GroJ w p (k + 1) m (fun j => if j = k then x else xs j) (.slice (some ⟨g13, 0, none⟩) (k + 1) cap13) w13 o13 := by
            refine ⟨fun j hj => ?_, Fm11.step s13 (by decide) (by decide), ?_, T11.step s13 (by decide), W11.step s13 (by decide), S11.trans (s13.mono fun k h => by omega)⟩
            · show (if j = k then x else xs j) < top64
              split
              · exact hxl
              · exact hxs j (by omega)
            · have e1 := want_next xs k x m z HZ.out
              rw [hlst] at e1
              rw [e1]
              exact R13
          clear s13' s13 R13 R11 T11 W11 S11 Fm11 K11 HZ hlst c11
          go_wp2
          go_roundw
          case rel => (try ((repeat apply Exists.intro); refine ⟨?_, rfl⟩)); exact ⟨k + 1, fun j => if j = k then x else xs j, o13, by omega, by go_num, RR⟩
          case measure => simp [intOf]; omega
      · obtain rfl : k = 16 := by omega
        go_wp2
        go_meet
        exact ⟨xs, o', hxs, hFm, hR, hTz, hWd, hS⟩
  case rest =>
  clear J0
  obtain ⟨xs, o4, hxs, hFm, hR, hTz, hWd, hS⟩ := hcut
  obtain ⟨w4, rfl⟩ : ∃ v, v = wc := ⟨_, rfl⟩
  have af := add_full w4 o4 10 p 16 (fgo xs 16) more9 hFm more_size hWd.1 more_name (by rw [more_none]; rfl) (by omega)
  rw [show more9 = ⟨#[109, 111, 114, 101]⟩ from rfl] at af
  go_wp2_with fail
  refine Calls.mono af ?_
  rintro e w5 ⟨rfl, g5⟩
  have s5 : Step (fun _ => False) w4 o4 w5 o4 := Step.ofBelow o4 g5
  have Fm5 := hFm.step s5 id id
  have R5 := hR.step s5 id
  have S5 := hS.trans (s5.mono fun _ h => h.elim)
  have pu := purge_ok w5 o4 10 p 16 m (fgo xs 16) Fm5 (by omega) hm (fgo_fine hxs)
  clear af s5 g5 hFm hR hTz hWd hS
  go_wp2_with fail
  refine Calls.mono pu ?_
  rintro e w6 ⟨o6, rfl, Fm6, s6⟩
  have R6 := R5.step s6 (by omega)
  have S6 := S5.trans (s6.mono fun k h => by omega)
  have sm := same_fam w6 o6 10 p 16 (purged (fgo xs 16) m) Fm6 (by omega) (pg_fine hxs)
  clear pu s6 Fm5 R5 S5
  go_wp2_with fail
  refine Calls.mono sm ?_
  rintro e w7 ⟨v, NL, G, o7, rfl, hN, hNl, hG, M7, hGl, Fm7, s7⟩
  have R7 := R6.step s7 (by omega)
  have S7 := S6.trans (s7.mono fun k h => by omega)
  have hcn := hG.count hN
  have hG0 : 0 < G.length := by
    cases hgl : G.length with
    | zero => rw [hgl] at hcn; rw [hNl] at hcn; cases hcn
    | succ n => omega
  obtain ⟨vs, hRo, hGv⟩ := M7
  obtain ⟨go, co, rfl, _, _, _, hgol, hoc, _⟩ := hRo.pos hG0
  have hfull := hG.full
  have AT : Hid (∀ i (hi : i < G.length), ∃ gi ci, w7.cell? ⟨go, i, none⟩ = some (.slice (some ⟨gi, 0, none⟩) (G[i]).2.length ci) ∧ gi < w7.heap.size ∧ ∀ k (hk : k < (G[i]).2.length), w7.cell? ⟨gi, k, none⟩ = some (.string ((G[i]).2[k]))) := fun i hi => by
    obtain ⟨u, hu, hr⟩ := hGv i hi
    have hne : 0 < (G[i]).2.length := by
      cases hl : (G[i]).2 with
      | nil => exact absurd hl (hfull i hi)
      | cons a t => simp
    obtain ⟨gi, ci, rfl, _, _, _, hgl, hcc, _⟩ := hr.pos hne
    refine ⟨gi, ci, by rw [hoc i (by omega), hu], hgl, fun k hk => ?_⟩
    rw [hcc k (by omega)]
    simp [strsL, hk]
  obtain ⟨gw, cw, rfl, _, _, _, hgwl, hwc, _⟩ := R7.pos (by omega)
  have WANT : Hid (∀ j, j < 16 → w7.cell? ⟨gw, j, none⟩ = some (.int .u64 (mns (xs j) (bt m) : Nat))) := fun j hj => by
    rw [hwc j (by omega), List.getElem?_map, List.getElem?_range hj]
    rfl
  have B7 := S7.below (old9 w)
  have HCN : Hid (cntG G G.length = 16) := by show _ = _; rw [hcn, hNl]
  clear sm R6 S6 Fm6 hRo hGv hoc hwc R7 S7 s7 hcn hfull
  go_wp2_with fail
  go_loopw [15, 16] (fun v15 v16 wr => ∃ i : Nat, i ≤ G.length ∧ v16 = .int .i64 (i : Nat) ∧ v15 = .int .i64 (cntG G i : Nat) ∧ Below w7.heap.size w7 wr) (fun _ v16 _ => G.length - (intOf v16).toNat)
  case atStart => exact ⟨0, by omega, by go_num, by go_num, b0 _⟩
  case round =>
    obtain ⟨i, hi, rfl, rfl, BB⟩ := hrel
    by_cases hlt : i < G.length
    · have hiI : (i : Int) < (G.length : Int) := by omega
      obtain ⟨gi, ci, hgc, hgil, hgs⟩ := AT.out i hlt
      have hne : 0 < (G[i]).2.length := by
        cases hl : (G[i]).2 with
        | nil => exact absurd hl (hG.full i hlt)
        | cons a t => simp
      have hle16 : (G[i]).2.length ≤ 16 := by have := (hG.sub i hlt).length_le; omega
      have hse := hG.sets i hlt
      have hri : ∀ k (q1 : k < (G[i]).2.length) (q2 : k + 1 < (G[i]).2.length), bls ((G[i]).2[k]'q1) ((G[i]).2[k + 1]'q2) := fun k q1 q2 => hG.rise hN i k hlt q2
      have hcnx : cntG G (i + 1) = cntG G i + (G[i]).2.length := by
        show cntG G i + _ = _
        rw [List.getElem?_eq_getElem hlt]
      have HCX : Hid (cntG G (i + 1) = cntG G i + (G[i]).2.length) := hcnx
      have hcle : cntG G i ≤ 16 := by
        have := cntG_mono G i G.length hi
        rw [HCN.out] at this
        exact this
      have HAP : Hid (∀ j, j < i → ∃ gj cj lj t y, w7.cell? ⟨go, j, none⟩ = some (.slice (some ⟨gj, 0, none⟩) lj cj) ∧ 0 < lj ∧ gj < w7.heap.size ∧ w7.cell? ⟨gj, 0, none⟩ = some (.string t) ∧ purged (fgo xs 16) m t = some y ∧ t.size ≤ maxLen ∧ y ≠ (G[i]).1) := fun j hj => by
        obtain ⟨gj, cj, q1, q2, q3⟩ := AT.out j (by omega)
        have hnj : 0 < (G[j]'(by omega)).2.length := by
          cases hl : (G[j]'(by omega)).2 with
          | nil => exact absurd hl (hG.full j (by omega))
          | cons a t => simp
        have hmj := (hG.sets j (by omega) ((G[j]'(by omega)).2[0]'hnj)).1 (List.getElem_mem _)
        exact ⟨gj, cj, _, _, _, q1, hnj, q2, q3 0 hnj, hmj.2, (pg_fine hxs _ _ hmj.2).2, fun e => by have := hG.apart j i (by omega) hlt e; omega⟩
      have HRN : Hid (∀ h1 : 0 < i, ∃ gj cj lj t, w7.cell? ⟨go, i - 1, none⟩ = some (.slice (some ⟨gj, 0, none⟩) lj cj) ∧ 0 < lj ∧ gj < w7.heap.size ∧ w7.cell? ⟨gj, 0, none⟩ = some (.string t) ∧ bls t ((G[i]).2[0]'hne)) := fun h1 => by
        obtain ⟨gj, cj, q1, q2, q3⟩ := AT.out (i - 1) (by omega)
        have hnj : 0 < (G[i - 1]'(by omega)).2.length := by
          cases hl : (G[i - 1]'(by omega)).2 with
          | nil => exact absurd hl (hG.full (i - 1) (by omega))
          | cons a t => simp
        refine ⟨gj, cj, _, _, q1, hnj, q2, q3 0 hnj, ?_⟩
        have e : i - 1 + 1 = i := by omega
        have key : ∀ i' (h' : i' < G.length) (hn' : 0 < (G[i']).2.length), i' = i → bls ((G[i - 1]'(by omega)).2[0]'hnj) ((G[i']).2[0]'hn') → bls ((G[i - 1]'(by omega)).2[0]'hnj) ((G[i]).2[0]'hne) := fun i' h' hn' q hb => by subst q; exact hb
        have hn2 : 0 < (G[i - 1 + 1]'(by omega)).2.length := by simp only [e]; exact hne
        exact key (i - 1 + 1) (by omega) hn2 e (hG.risen hN (i - 1) (by omega) hnj hn2)
      clear hcnx
      generalize G[i] = pr at hgc hgs hne hle16 hse hri HCX HAP HRN
      obtain ⟨x, ms⟩ := pr
      dsimp only at hgc hgs hne hle16 hse hri HCX HAP HRN
      obtain ⟨lm, hlm⟩ : ∃ lm, lm = ms.length := ⟨_, rfl⟩
      rw [← hlm] at hgc
      have HLM : Hid (lm = ms.length) := hlm
      have hlm0 : 0 < lm := by omega
      have hlm16 : lm ≤ 16 := by omega
      clear hlm
      have hgc1 := (BB.cell (p := ⟨go, i, none⟩) hgol).trans hgc
      have hs07 := hgs 0 hne
      have hs0 := (BB.cell (p := ⟨gi, 0, none⟩) hgil).trans hs07
      have hm0 := (hse (ms[0]'hne)).1 (List.getElem_mem _)
      have hsz0 := (pg_fine hxs _ _ hm0.2).2
      have gt := get_ok wr o7 10 p 16 _ (ms[0]'hne) x (Fm7.step (Step.ofBelow (I := fun _ => False) o7 BB) id id) hsz0 hm0.2
      generalize ms[0]'hne = s0 at hs0 hs07 gt HRN
      have hlm0I : ¬ ((lm : Int) == 0) = true := by simp; omega
      have hlm0J : ¬ (lm : Int) = 0 := by omega
      have hlm0K : (0 : Int) < (lm : Int) := by omega
      go_wp2_with fail
      refine Calls.mono gt ?_
      rintro e v1 ⟨rfl, g1⟩
      have g2 := bal g1 (.cells #[.int .u64 (x : Nat)] 27)
      have X17 := Box.new v1 x 27
      have B2 := bjoin BB g2
      obtain ⟨b17, hb17⟩ : ∃ b, b = v1.heap.size := ⟨_, rfl⟩
      have HB17 : Hid (b17 = v1.heap.size) := hb17
      rw [← hb17] at X17
      obtain ⟨v2, hv2⟩ : ∃ v, v = v1.alloc (.cells #[.int .u64 (x : Nat)] 27) := ⟨_, rfl⟩
      rw [← hv2] at X17 B2
      clear hb17 gt g1 g2 BB hgc1 hs0 hm0 hsz0
      go_wp2_with fail
      rw [← hv2, ← HB17.out]
      clear hv2 HB17
      go_loopw [15, 19] (fun v15 v19 wr => ∃ k : Nat, k ≤ lm ∧ v19 = .int .i64 (k : Nat) ∧ v15 = .int .i64 (cntG G i + k : Nat) ∧ Box wr b17 x ∧ Below w7.heap.size w7 wr) (fun _ v19 _ => lm - (intOf v19).toNat)
      case atStart => exact ⟨0, by omega, by go_num, by go_num, X17, B2⟩
      case round =>
        obtain ⟨k, hk, rfl, rfl, Y17, BB⟩ := hrel
        clear X17 B2
        have hgc1 := (BB.cell (p := ⟨go, i, none⟩) hgol).trans hgc
        by_cases hkl : k < lm
        · as_aux_lemma =>
            have hkI : (k : Int) < (lm : Int) := by omega
            have hkm : k < ms.length := by rw [← HLM.out]; exact hkl
            have hsk7 := hgs k hkm
            have hmk := (hse (ms[k]'hkm)).1 (List.getElem_mem _)
            have hszk := (pg_fine hxs _ _ hmk.2).2
            obtain ⟨j, hj, hnj, hxj⟩ := pg_inv hmk.2
            have gt := get_ok wr o7 10 p 16 _ (ms[k]'hkm) x (Fm7.step (Step.ofBelow (I := fun _ => False) o7 BB) id id) hszk hmk.2
            have HPV : Hid (∀ h1 : 0 < k, w7.cell? ⟨gi, k - 1, none⟩ = some (.string (ms[k - 1]'(by omega))) ∧ bls (ms[k - 1]'(by omega)) (nm9 j)) := fun h1 => by
              refine ⟨hgs (k - 1) (by omega), ?_⟩
              have e : k - 1 + 1 = k := by omega
              have key : ∀ k' (h' : k' < ms.length), k' = k → bls (ms[k - 1]'(by omega)) (ms[k']'h') → bls (ms[k - 1]'(by omega)) (ms[k]'hkm) := fun k' h' q hb => by subst q; exact hb
              rw [← hnj]
              exact key (k - 1 + 1) (by omega) e (hri (k - 1) (by omega) (by omega))
            rw [hnj] at hsk7 gt
            have hsk := (BB.cell (p := ⟨gi, k, none⟩) hgil).trans hsk7
            have hwj := WANT.out j hj
            rw [← hxj] at hwj
            clear hmk hszk hnj hse hri hxj
            have hcI : ((cntG G i + k : Nat) : Int) + 1 = ((cntG G i + (k + 1) : Nat) : Int) := by omega
            go_wp2_with fail
            refine Calls.mono gt ?_
            rintro e v3 ⟨rfl, g3⟩
            have g4 := bal g3 (.cells #[.int .u64 (x : Nat)] 27)
            have X20 := Box.new v3 x 27
            have Y17 := Y17.below g4
            have B4 := bjoin BB g4
            obtain ⟨b20, hb20⟩ : ∃ b, b = v3.heap.size := ⟨_, rfl⟩
            have HB20 : Hid (b20 = v3.heap.size) := hb20
            rw [← hb20] at X20
            obtain ⟨v4, hv4⟩ : ∃ v, v = v3.alloc (.cells #[.int .u64 (x : Nat)] 27) := ⟨_, rfl⟩
            rw [← hv4] at X20 B4 Y17
            have hgc4 := (B4.cell (p := ⟨go, i, none⟩) hgol).trans hgc
            have hsk4 := (B4.cell (p := ⟨gi, k, none⟩) hgil).trans hsk7
            have hwj4 := (B4.cell (p := ⟨gw, j, none⟩) hgwl).trans hwj
            clear hb20 gt g3 g4 BB hgc1 hsk
            go_upto_region 33 with fail
            rw [← hv4, ← HB20.out]
            clear hv4 HB20
            have hfe := str_full (s := nm9 j) (by rw [nm9_size]; decide)
            go_upto_region 35 with fail
            have hzz := nm9_size j
            have hzI : ((1 : Int) < ((nm9 j).size : Int)) := by rw [nm9_size]; decide
            have hlast := nm9_last j hj (by rw [nm9_size]; decide)
            go_quiet (fail)
            have h97 : (97 : Int) + (j : Int) - 97 = (j : Int) := by omega
            rw [h97]
            clear hlast h97 hzz hzI hfe
            have hd1 : decide ((j : Int) < 0) = false := decide_eq_false (by omega)
            have hd2 : decide ((15 : Int) < (j : Int)) = false := decide_eq_false (by omega)
            have hjI : (j : Int) < 16 := by omega
            have y17 := Y17.1
            have x20 := X20.1
            by_cases hk0 : k = 0
            · subst hk0
              go_upto_region 36 with fail
              go_quiet (fail)
              go_wp2
              go_roundw
              case rel => (try ((repeat apply Exists.intro); refine ⟨?_, rfl⟩)); exact ⟨0 + 1, by omega, by go_num, by go_num, Y17, bdr B4 _⟩
              case measure => simp [intOf]; omega
            · obtain ⟨hp7, hlp⟩ := HPV.out (by omega)
              generalize ms[k - 1]'(by omega) = sp at hp7 hlp
              have hp4 := (B4.cell (p := ⟨gi, k - 1, none⟩) hgil).trans hp7
              obtain ⟨hq1, hq2⟩ := not_leq hlp
              clear hp7 hlp HPV hgs
              obtain ⟨k', hk'⟩ : ∃ k', k' = k - 1 := ⟨_, rfl⟩
              rw [← hk'] at hp4
              have hkI0 : (k' : Int) < (lm : Int) := by omega
              have hk1I : (0 : Int) < (k : Int) := by omega
              have hk1N : 0 < k := by omega
              have hk1B : decide ((0 : Int) < (k : Int)) = true := decide_eq_true hk1I
              have hk1D : decide (0 < k) = true := decide_eq_true hk1N
              have hkk : (k : Int) - 1 = (k' : Int) := by omega
              clear hk'
              go_upto_region 36 with fail
              go_quiet (fail)
              go_wp2
              go_roundw
              case rel => (try ((repeat apply Exists.intro); refine ⟨?_, rfl⟩)); exact ⟨k + 1, by omega, by go_num, by go_num, Y17, bdr B4 _⟩
              case measure => simp [intOf]; omega
        · obtain rfl : k = lm := by omega
          have hkI : ¬ (k : Int) < (k : Int) := by omega
          have HCV : Hid (((cntG G (i + 1) : Nat) : Int) = (cntG G i : Int) + (k : Int)) := by
            show _ = _
            rw [HCX.out, HLM.out]; push_cast; rfl
          clear hgs
          go_wp2_with fail
          go_loopw [23] (fun v23 wr => ∃ q : Nat, q ≤ i ∧ v23 = .int .i64 (q : Nat) ∧ Box wr b17 x ∧ Below w7.heap.size w7 wr) (fun v23 _ => i - (intOf v23).toNat)
          case atStart => exact ⟨0, by omega, by go_num, Y17, BB⟩
          case round =>
            clear Y17 BB hgc1
            obtain ⟨q, hq, rfl, Y17, BB⟩ := hrel
            by_cases hqi : q < i
            · as_aux_lemma =>
                have hqI : (q : Int) < (i : Int) := by omega
                have hqG : (q : Int) < (G.length : Int) := by omega
                obtain ⟨gj, cj, lj, t, y, e1, e2, e3, e4, e5, e6, e7⟩ := HAP.out q hqi
                have hgcq := (BB.cell (p := ⟨go, q, none⟩) hgol).trans e1
                have hsq := (BB.cell (p := ⟨gj, 0, none⟩) e3).trans e4
                have gt := get_ok wr o7 10 p 16 _ t y (Fm7.step (Step.ofBelow (I := fun _ => False) o7 BB) id id) e6 e5
                have e2I : (0 : Int) < (lj : Int) := by omega
                have e7I : ¬ (y : Int) = (x : Int) := by omega
                have e7B : ((y : Int) == (x : Int)) = false := by rw [beq_eq_false_iff_ne]; omega
                clear e1 e4 e5 e6 hgc hs07
                go_wp2_with fail
                refine Calls.mono gt ?_
                rintro e v3 ⟨rfl, g3⟩
                have g4 := bal g3 (.cells #[.int .u64 (y : Nat)] 27)
                have X24 := Box.new v3 y 27
                have Y17 := Y17.below g4
                have B4 := bjoin BB g4
                have y17 := Y17.1
                have x24 := X24.1
                clear gt g3 g4 BB
                go_wp2
                go_roundw
                case rel => (try ((repeat apply Exists.intro); refine ⟨?_, rfl⟩)); exact ⟨q + 1, by omega, by go_num, Y17, B4⟩
                case measure => simp [intOf]; omega
            · obtain rfl : q = i := by omega
              have hqI : ¬ (q : Int) < (q : Int) := by omega
              have hgc1 := (BB.cell (p := ⟨go, q, none⟩) hgol).trans hgc
              have hs0 := (BB.cell (p := ⟨gi, 0, none⟩) hgil).trans hs07
              by_cases hq0 : q = 0
              · subst hq0
                go_upto_region 45 with fail
                go_quiet (fail)
                go_wp2
                go_roundw
                case rel => (try ((repeat apply Exists.intro); refine ⟨?_, rfl⟩)); exact ⟨0 + 1, by omega, by go_num, congrArg (Value.int .i64) HCV.out.symm, bdr BB _⟩
                case measure => simp [intOf]; omega
              · obtain ⟨gj, cj, lj, t, f1, f2, f3, f4, f5⟩ := HRN.out (by omega)
                have hgp := (BB.cell (p := ⟨go, q - 1, none⟩) hgol).trans f1
                have hsp := (BB.cell (p := ⟨gj, 0, none⟩) f3).trans f4
                obtain ⟨hl1, hl2⟩ := not_leq f5
                clear f1 f4 f5 HRN HAP hgc
                obtain ⟨q', hq'⟩ : ∃ q', q' = q - 1 := ⟨_, rfl⟩
                rw [← hq'] at hgp
                have f2I : (0 : Int) < (lj : Int) := by omega
                have hqq1 : (0 : Int) < (q : Int) := by omega
                have hqqN : 0 < q := by omega
                have hqqB : decide ((0 : Int) < (q : Int)) = true := decide_eq_true hqq1
                have hqqD : decide (0 < q) = true := decide_eq_true hqqN
                have hqq3 : (q' : Int) < (G.length : Int) := by omega
                have hqq : (q : Int) - 1 = (q' : Int) := by omega
                clear hq'
                go_upto_region 45 with fail
                go_quiet (fail)
                go_wp2
                go_roundw
                case rel => (try ((repeat apply Exists.intro); refine ⟨?_, rfl⟩)); exact ⟨q + 1, by omega, by go_num, congrArg (Value.int .i64) HCV.out.symm, bdr BB _⟩
                case measure => simp [intOf]; omega
    · obtain rfl : i = G.length := by omega
      have hcI : ((cntG G G.length : Nat) : Int) = 16 := by rw [HCN.out]; rfl
      have hiI : ¬ (G.length : Int) < (G.length : Int) := by omega
      go_wp2
      go_ret
      exact ⟨rfl, bjoin B7 BB⟩
end Go.Proofs.YtabkbldhiigcgaaDoor
