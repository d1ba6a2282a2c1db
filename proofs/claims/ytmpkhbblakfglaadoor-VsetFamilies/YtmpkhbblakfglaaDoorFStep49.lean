/- VsetFamilies: a step that lays a set under a name. -/
import Derived.Test.YtmpkhbblakfglaaDoorFStep39
namespace Go.Proofs.YtmpkhbblakfglaaDoor
open Go.ChangeShapes Go.WideShapes Go.ChangeAt Go.RowKit Go.Maps
set_option linter.unusedVariables false
set_option linter.unusedSimpArgs false

/-- The numbers that raw ones speak of. -/
def pkl (f : Nat → Int) (k : Nat) : List Nat := (List.range k).map fun j => pk (f j) 64
theorem pkl_len (f : Nat → Int) (k : Nat) : (pkl f k).length = k := by simp [pkl]
theorem pkl_lt {f : Nat → Int} {k : Nat} (y : Nat) (h : y ∈ pkl f k) : y < 64 := by
  simp only [pkl, List.mem_map] at h
  obtain ⟨j, _, rfl⟩ := h
  exact pk_lt _ _ (by omega)
theorem pkl_next (f : Nat → Int) (k : Nat) : pkl f (k + 1) = pkl f k ++ [pk (f k) 64] := by simp [pkl, List.range_succ]
theorem OfOut.lt9 {f : Nat → Int} {n s : Nat} {e : Int} (h : OfOut f n s e) : s < top64 := by
  rcases h with ⟨h1, h2, h3⟩ | ⟨h1, h2, _⟩
  · rw [h3]; exact ofs_lt f n h2
  · rw [h2]; decide
set_option maxRecDepth 100000 in
set_option maxHeartbeats 8000000 in
theorem step_4g (w : World) (o : Nat → Nat) (B ps pf px : Nat) (hB : 1000 ≤ B) (Q0 : World → (Nat → Nat) → Prop) (Q1' Q2' : Nat → World → (Nat → Nat) → Prop) (sta0 : Sta9 B ps pf px Q0) (sta1 : ∀ x, Sta9 B ps pf px (Q1' x)) (sta2 : ∀ x, Sta9 B ps pf px (Q2' x)) (q0 : Q0 w o) (n : Int) (s : ByteArray) (ao : Option Addr) (len cap : Nat) (ot : Bool) (r : Int) (f : Nat → Int) (hI : Ints w ao len f) (hlab : ∀ ad, ao = some ad → 0 < len → o ad.block = 0) (hmx : len ≤ maxLen)
    (hcal1 : ∀ x, x < top64 → ∀ wx ox, Q0 wx ox → Calls Tryd.prog 12 #[.pointer (some ⟨pf, 0, none⟩), .string s, sv x] wx fun e w' => e = .returned (.int .i64 r) ∧ ∃ o', Q1' x w' o' ∧ Step (SB B) wx ox w' o')
    (hcal2 : ∀ x, x < top64 → ∀ wx ox, Q1' x wx ox → Calls Tryd.prog 22 #[.pointer (some ⟨px, 0, none⟩), .string s, av x] wx fun e w' => e = .returned (.int .i64 r) ∧ ∃ o', Q2' x w' o' ∧ Step (SB B) wx ox w' o') :
    Calls Tryd.prog 6 #[.pointer (some ⟨ps, 0, none⟩), .agg #[.int .i64 4, .int .i64 n, .string s, .slice ao len cap, .bool ot]] w fun e w' => StO w o B (fun w o => ∃ x, x < top64 ∧ Q2' x w o) e w' := by
  have sB := newStep (fun _ => False) w o 95 (.cells #[.int .i64 4, .int .i64 n, .string s, .slice ao len cap, .bool ot] 37)
  have Q1 := sta0.st q0 sB (fun _ _ => id) id
  have S1 : Step (fun k => SB B k ∨ (90 ≤ k ∧ k < 300)) w o _ _ := sB.mono (fun _ h => h.elim)
  have e3 : (w.alloc (.cells #[.int .i64 4, .int .i64 n, .string s, .slice ao len cap, .bool ot] 37)).heap[w.heap.size]? = some (.cells #[.int .i64 4, .int .i64 n, .string s, .slice ao len cap, .bool ot] 37 (0, 0)) := heap_alloc_new w _
  have lb3 : newLab w o 95 w.heap.size = 95 := newLab_new (Nat.le_refl _)
  have hI1 : ∀ (wx : World) (ox : Nat → Nat), Step (fun k => k = 96) (w.alloc (.cells #[.int .i64 4, .int .i64 n, .string s, .slice ao len cap, .bool ot] 37)) (newLab w o 95) wx ox → ∀ j, j < len → ∃ bl off, ao = some ⟨bl, off, none⟩ ∧ wx.cell? ⟨bl, off + j, none⟩ = some (.int .i64 (f j)) ∧ -9223372036854775808 ≤ f j ∧ f j ≤ 9223372036854775807 := fun wx ox st j hj => by
    obtain ⟨bl, off, h1, h2, h3, h4⟩ := hI j hj
    have l0 := hlab _ h1 (by omega)
    have u := sB.mono (J := fun k => k = 96) (fun _ h => h.elim)
    exact ⟨bl, off, h1, ((u.trans st).cellAt (p := ⟨bl, off + j, none⟩) h2 (by show ¬ o bl = 96; rw [show o bl = 0 from l0]; omega)).trans h3, h4⟩
  clear q0 sB hI hlab
  unfold maxLen at hmx
  obtain ⟨ii, hii, hzi0, hzi1, hzi2⟩ := info_parts infoInt
  go_enter Tryd.func6, Tryd.ntmps6
  go_upto_region 1 with fail
  obtain ⟨b3, hb3⟩ : ∃ b3, b3 = w.heap.size := ⟨_, rfl⟩
  rw [← hb3] at e3 lb3 ⊢
  generalize newLab w o 95 = o1 at Q1 S1 lb3 hI1
  generalize w.alloc (.cells #[.int .i64 4, .int .i64 n, .string s, .slice ao len cap, .bool ot] 37) = w1 at Q1 S1 e3 hI1 ⊢
  clear hb3
  have d0 : w1.cell? ⟨b3, 0, none⟩ = some (.int .i64 4) := by simp [cell_of_row w1 b3 _ _ _ (0, 0) e3]
  have x3 : w1.cell? ⟨b3, 2, none⟩ = some (.string s) := by simp [cell_of_row w1 b3 _ _ _ (0, 0) e3]
  have y3 : w1.cell? ⟨b3, 3, none⟩ = some (.slice ao len cap) := by simp [cell_of_row w1 b3 _ _ _ (0, 0) e3]
  have hltb : b3 < w1.heap.size := lt_of_block e3
  have HI : Hid (∀ (wx : World) (ox : Nat → Nat), Step (fun k => k = 96) w1 o1 wx ox → ∀ j, j < len → ∃ bl off, ao = some ⟨bl, off, none⟩ ∧ wx.cell? ⟨bl, off + j, none⟩ = some (.int .i64 (f j)) ∧ -9223372036854775808 ≤ f j ∧ f j ≤ 9223372036854775807) := hI1
  have HX : Hid (∀ (wx : World) (ox : Nat → Nat), Step (fun k => k = 96) w1 o1 wx ox → wx.cell? ⟨b3, 2, none⟩ = some (.string s)) := fun wx ox st => (st.cellAt (p := ⟨b3, 2, none⟩) hltb (by show ¬ o1 b3 = 96; rw [lb3]; omega)).trans x3
  have HY : Hid (∀ (wx : World) (ox : Nat → Nat), Step (fun k => k = 96) w1 o1 wx ox → wx.cell? ⟨b3, 3, none⟩ = some (.slice ao len cap)) := fun wx ox st => (st.cellAt (p := ⟨b3, 3, none⟩) hltb (by show ¬ o1 b3 = 96; rw [lb3]; omega)).trans y3
  clear e3 hI1 x3
  go_wp2_with fail
  clear d0 y3
  go_loopw [10, 11] (fun v10 v11 wr => ∃ (k : Nat) (o2 : Nat → Nat), k ≤ len ∧ k ≤ 100 ∧ v11 = .int .i64 (k : Nat) ∧ Row wr o2 96 3 1 v10 (pkl f k).length (intsL (pkl f k)) ∧ Step (fun k => k = 96) w1 o1 wr o2) (fun _ v11 _ => 100 - (intOf v11).toNat)
  case atStart => exact ⟨0, o1, by omega, by omega, by go_num, Row.nil _ _ _ _ _, Step.refl _ _ _⟩
  case round =>
    obtain ⟨k, o2, hk, hk100, rfl, r10, st⟩ := hrel
    have y4 := HY.out _ _ st
    by_cases hlt : k < len
    · have hkI : (k : Int) < (len : Int) := by omega
      by_cases h100 : k < 100
      · have hkJ : (k : Int) < 100 := by omega
        obtain ⟨bl, off, rfl, cl, f1, f2⟩ := HI.out _ _ st k hlt
        have hp := fun wx => pick_c (f k) 64 wx f1 f2 (by omega) (by omega)
        have HN := pkl_next f k
        have HNN : Hid (pkl f (k + 1) = pkl f k ++ [pk (f k) 64]) := HN
        have hM := pkl_len f k
        generalize pkl f k = l at r10 HNN hM
        generalize pk (f k) 64 = y at hp HNN
        generalize f k = z at cl hp f1 f2
        obtain ⟨a10, c10, hv⟩ := r10.form
        rw [hM] at hv r10
        subst hv
        have e1 : k + 1 ≤ maxLen := by unfold maxLen; omega
        have e2 : (k + 1) * 8 ≤ 140737488355328 := by omega
        have HM : Hid (l.length = k) := hM
        clear HN hM Q1 S1
        go_wp2_with fail
        refine (hp _).mono ?_
        rintro e w5 ⟨rfl, rfl⟩
        clear hp
        go_wp2_with (at_builtin; refine wpList_append_lab rfl (.tmp 104) (.tmp 111) 35 rfl 3 ii (.int .i64 0) 1 8 Tryd.underlying35 hii hzi0 hzi1 hzi2 rfl (by decide) o2 96 _ k (intsL l) rfl (r10.step (allocStep (fun _ => False) w5 o2 _) (by simp)) ⟨w5.heap.size, 0, none⟩ 1 1 [.int .i64 (y : Nat)] rfl rfl (new_one_at (by simp) _ _) (by intro u hu; simp at hu; subst hu; rfl) (by decide) e1 e2 ?_)
        intro g6 c6 w6 o6 r6 s6
        have st6 := st.trans ((allocStep (fun x => x = 96) w5 o2 _).trans s6)
        have r7 : Row w6 o6 96 3 1 (.slice (some ⟨g6, 0, none⟩) (k + 1) c6) (pkl f (k + 1)).length (intsL (pkl f (k + 1))) := by
          rw [HNN.out, List.length_append, HM.out]
          have e : intsL (l ++ [y]) = intsL l ++ [.int .i64 (y : Nat)] := by simp [intsL]
          rw [e]
          exact r6
        clear r10 st s6 r6 HNN HM cl y4 e1 e2
        go_wp2
        go_roundw
        case rel => (try ((repeat apply Exists.intro); refine ⟨?_, rfl⟩)); exact ⟨k + 1, o6, by omega, by omega, by go_num, r7, st6⟩
        case measure => simp [intOf]; omega
      · have hkJ : ¬ (k : Int) < 100 := by omega
        have u4 := st.labelled 95
        have R4 := r10.step ((Step.refl (fun _ => False) wr o2).labelled 95) id
        have Q4 := sta0.st Q1 u4 (fun j hj => by unfold SB at hj; omega) (by omega)
        have S4 : Step (fun k => SB B k ∨ (90 ≤ k ∧ k < 300)) w o wr (newLab wr o2 95) := S1.trans (u4.mono fun j hj => (by omega : SB B j ∨ (90 ≤ j ∧ j < 300)))
        have x4 := HX.out _ _ u4
        have l3 : newLab wr o2 95 b3 = 95 := (u4.lab b3 hltb).trans lb3
        have hltb4 : b3 < wr.heap.size := Nat.lt_of_lt_of_le hltb u4.size
        have lbn : ∀ j, wr.heap.size ≤ j → newLab wr o2 95 j = 95 := fun j hj => newLab_new hj
        obtain ⟨a10, c10, hv10, hInt⟩ := R4.ints (fun y hy => by have := pkl_lt y hy; omega)
        have hkM : (pkl f k).length ≤ maxLen := by rw [pkl_len]; unfold maxLen; omega
        subst hv10
        have hofA := of_c wr a10 (pkl f k).length c10 _ hInt hkM
        have hofB := fun wx (hb : Below wr.heap.size wr wx) => refOf_c wx a10 (pkl f k).length c10 _ (hInt.below hb (Nat.le_refl _)) hkM
        generalize hFF : (fun j => (((pkl f k).getD j 0 : Nat) : Int)) = FF at hofA hofB
        generalize hNN : (pkl f k).length = NN at hofA hofB ⊢
        generalize newLab wr o2 95 = o4 at Q4 S4 l3 lbn
        clear R4 r10 st Q1 S1 u4 hInt HI HX hFF hNN hkM
        go_upto_region 17 with fail
        clear y4 HY
        go_cut [12, 13] (fun v12 v13 wx => ∃ b12 x er, v12 = .pointer (some ⟨b12, 0, none⟩) ∧ v13 = .int .i64 er ∧ OfOut FF NN x er ∧ wx.cell? ⟨b12, 0, none⟩ = some (.int .u64 (x : Nat)) ∧ wr.heap.size ≤ b12 ∧ Below wr.heap.size wr wx)
        case first =>
          clear Q4 S4 x4 hofB hcal1 hcal2
          unfold sv at hofA
          go_wp2_with fail
          refine hofA.mono ?_
          rintro e w8 ⟨x, er, rfl, ho, b8⟩
          have q8 := bal b8 (.cells #[.int .u64 (x : Nat)] 42)
          have qc := box_cell w8 (x : Nat) 42
          have qn := b8.size
          go_wp2
          go_meet
          exact ⟨_, x, er, rfl, rfl, ho, qc, qn, q8⟩
        case rest =>
        obtain ⟨b12, x, er, rfl, rfl, ho, x12, hn12, B5⟩ := hcut
        have hxl := ho.lt9
        have hofC := hofB _ B5
        have Q5 := sta0.st Q4 (Step.ofBelow (I := fun _ => False) o4 B5) (fun _ _ => id) id
        have S5 : Step (fun k => SB B k ∨ (90 ≤ k ∧ k < 300)) w o wc o4 := S4.trans (Step.ofBelow o4 B5)
        have x5 := keep_below9 B5 x4
        have l12 : o4 b12 = 95 := lbn b12 hn12
        have hsz5 := B5.size
        clear Q4 S4 x4 hofA hofB B5
        generalize wc = w5 at Q5 S5 x5 x12 hofC hsz5 ⊢
        go_upto_region 18 with fail
        go_cut [14, 15] (fun v14 v15 wx => ∃ b14 er2, v14 = .pointer (some ⟨b14, 0, none⟩) ∧ v15 = .int .i64 er2 ∧ wx.heap[b14]? = some (.cells (b64 x).toArray 57 (0, 0)) ∧ w5.heap.size ≤ b14 ∧ Below w5.heap.size w5 wx)
        case first =>
          clear Q5 S5 x5 x12 hcal1 hcal2
          unfold av at hofC
          go_wp2_with fail
          refine hofC.mono ?_
          rintro e w10 ⟨x2, er2, rfl, ho2, b10⟩
          obtain ⟨rfl, rfl⟩ := ho.uniq ho2
          have q1 := bal b10 (.cells (b64 0).toArray 57)
          have r7 := heap_alloc_new w10 (.cells (b64 0).toArray 57)
          have q2 := below_setCells b10.size (b64 x) 0 _ q1
          have r8 := setCells_row (cs := b64 x) r7 (by rw [b64_len, b64_len])
          have qn := b10.size
          clear q1
          go_wp2_with (first | (refine wpList_alloc9 rfl 57 rfl (some 14) rfl w10.heap.size rfl (.agg (b64 0).toArray) (zero9 _) ?_) | (refine wpList_store_mid rfl 57 _ _ rfl w10.heap.size 0 (b64 x).toArray rfl rfl (there9 r7 x) (size9 _) (all_oneCell_toArray (b64_one _)) ?_))
          go_meet
          exact ⟨_, er, rfl, rfl, r8, qn, q2⟩
        case rest =>
        obtain ⟨b14, er2, rfl, rfl, r14, hn14, B6⟩ := hcut
        have Q6 := sta0.st Q5 (Step.ofBelow (I := fun _ => False) o4 B6) (fun _ _ => id) id
        have S6 : Step (fun k => SB B k ∨ (90 ≤ k ∧ k < 300)) w o wc o4 := S5.trans (Step.ofBelow o4 B6)
        have x6 := keep_below9 B6 x5
        have x12b := keep_below9 B6 x12
        have l14 : o4 b14 = 95 := lbn b14 (by omega)
        clear Q5 S5 x5 x12 hofC B6 ho
        generalize wc = w6 at Q6 S6 x6 x12b r14 ⊢
        go_upto_region 19 with fail
        have h3l : b3 < w6.heap.size := World.block_lt_of_cell? w6 _ x6
        have h12l : b12 < w6.heap.size := World.block_lt_of_cell? w6 _ x12b
        have h14l : b14 < w6.heap.size := lt_of_block r14
        have hc1 := hcal1 x hxl
        have hc2 := hcal2 x hxl
        have Q5d := sta0.st Q6 ((Step.refl (fun _ => False) w6 o4).drew) (fun _ _ => id) id
        have hSB : ¬ SB B 95 := by unfold SB; omega
        have rng : ∀ {wx : World} {ox : Nat → Nat}, Step (SB B) w6 o4 wx ox → wx.cell? ⟨b3, 2, none⟩ = some (.string s) ∧ wx.cell? ⟨b12, 0, none⟩ = some (.int .u64 (x : Nat)) ∧ wx.rangeAt b14 0 (b64 x) := fun {wx ox} t => ⟨(t.cellAt (p := ⟨b3, 2, none⟩) h3l (by show ¬ SB B (o4 b3); rw [l3]; exact hSB)).trans x6, (t.cellAt (p := ⟨b12, 0, none⟩) h12l (by show ¬ SB B (o4 b12); rw [l12]; exact hSB)).trans x12b, range_blk ((t.block b14 h14l (by rw [l14]; exact hSB)).trans r14)⟩
        have HS : Hid (w6.drew.cell? ⟨ps, 0, none⟩ = some (.pointer (some ⟨pf, 0, none⟩)) ∧ w6.drew.cell? ⟨ps, 1, none⟩ = some (.pointer (some ⟨px, 0, none⟩)) ∧ w6.drew.cell? ⟨b3, 2, none⟩ = some (.string s) ∧ w6.drew.cell? ⟨b12, 0, none⟩ = some (.int .u64 (x : Nat)) ∧ w6.drew.rangeAt b14 0 (b64 x)) := ⟨sta0.c0 Q5d, sta0.c1 Q5d, rng ((Step.refl _ w6 o4).drew)⟩
        have HK1 : Hid (∀ wA oA, Q1' x wA oA → Step (SB B) w6.drew o4 wA oA → wA.cell? ⟨ps, 0, none⟩ = some (.pointer (some ⟨pf, 0, none⟩)) ∧ wA.cell? ⟨ps, 1, none⟩ = some (.pointer (some ⟨px, 0, none⟩)) ∧ wA.cell? ⟨b3, 2, none⟩ = some (.string s) ∧ wA.cell? ⟨b12, 0, none⟩ = some (.int .u64 (x : Nat)) ∧ wA.rangeAt b14 0 (b64 x)) := fun wA oA q t => ⟨(sta1 x).c0 q, (sta1 x).c1 q, rng ((Step.refl _ w6 o4).drew.trans t)⟩
        have HK2 : Hid (∀ wA oA wB oB, Q1' x wA oA → Step (SB B) w6.drew o4 wA oA → Q2' x wB oB → Step (SB B) wA oA wB oB → (wB.cell? ⟨ps, 0, none⟩ = some (.pointer (some ⟨pf, 0, none⟩)) ∧ wB.cell? ⟨ps, 1, none⟩ = some (.pointer (some ⟨px, 0, none⟩)) ∧ wB.cell? ⟨b3, 2, none⟩ = some (.string s) ∧ wB.cell? ⟨b12, 0, none⟩ = some (.int .u64 (x : Nat)) ∧ wB.rangeAt b14 0 (b64 x)) ∧ StO w o B (fun w o => ∃ x, x < top64 ∧ Q2' x w o) (.returned (.bool true)) wB) := fun wA oA wB oB q t q2 t2 => by
          have u := (Step.refl (SB B) w6 o4).drew.trans (t.trans t2)
          exact ⟨⟨(sta2 x).c0 q2, (sta2 x).c1 q2, rng u⟩, rfl, oB, ⟨x, hxl, q2⟩, S6.trans (u.mono fun k h => Or.inl h)⟩
        unfold sv at hc1
        unfold av at hc2
        clear Q6 S6 x6 x12b rng r14 hcal1 hcal2 h3l h12l h14l
        refine wp_region_noPanic ?_
        refine wp_region_held_drew (S := fun wx => wx.cell? ⟨ps, 0, none⟩ = some (.pointer (some ⟨pf, 0, none⟩)) ∧ wx.cell? ⟨ps, 1, none⟩ = some (.pointer (some ⟨px, 0, none⟩)) ∧ wx.cell? ⟨b3, 2, none⟩ = some (.string s) ∧ wx.cell? ⟨b12, 0, none⟩ = some (.int .u64 (x : Nat)) ∧ wx.rangeAt b14 0 (b64 x)) (by kernel_rfl) HS.out (fun hHeld => ?_)
        refine wpAnyH_take (i := 0) (v := ?v1) rfl (by kernel_rfl) (by kernel_rfl) (by kernel_rfl) (fun _ _ _ h => h) (Or.inl ⟨by rfl, ?hy1⟩) (by assumption) ?rest1
        case hy1 => (intro w hSw; (try dsimp only at hSw); go_simp; all_goals (with_reducible rfl))
        simp only [Act.put, List.getElem_toArray, List.getElem_cons_zero, List.getElem_cons_succ, List.setIfInBounds_toArray, List.set_cons_zero, List.set_cons_succ]
        refine wpAnyH_take (i := 1) (v := ?v2) rfl (by kernel_rfl) (by kernel_rfl) (by kernel_rfl) (fun _ _ _ h => h) (Or.inl ⟨by rfl, ?hy2⟩) (by assumption) ?rest2
        case hy2 => (intro w hSw; (try dsimp only at hSw); go_simp; all_goals (with_reducible rfl))
        simp only [Act.put, List.getElem_toArray, List.getElem_cons_zero, List.getElem_cons_succ, List.setIfInBounds_toArray, List.set_cons_zero, List.set_cons_succ]
        refine wpAnyH_take (i := 2) (v := ?v3) rfl (by kernel_rfl) (by kernel_rfl) (by kernel_rfl) (fun _ _ _ h => h) (Or.inl ⟨by rfl, ?hy3⟩) (by assumption) ?rest3
        case hy3 => (intro w hSw; (try dsimp only at hSw); go_simp; all_goals (with_reducible rfl))
        simp only [Act.put, List.getElem_toArray, List.getElem_cons_zero, List.getElem_cons_succ, List.setIfInBounds_toArray, List.set_cons_zero, List.set_cons_succ]
        refine wpAnyH_take (i := 3) (v := ?v4) rfl (by kernel_rfl) (by kernel_rfl) (by kernel_rfl) (fun _ _ _ h => h) (Or.inl ⟨by rfl, ?hy4⟩) (by assumption) ?rest4
        case hy4 => (intro w hSw; (try dsimp only at hSw); have k3 := hSw.1; go_simp; all_goals (with_reducible rfl))
        simp only [Act.put, List.getElem_toArray, List.getElem_cons_zero, List.getElem_cons_succ, List.setIfInBounds_toArray, List.set_cons_zero, List.set_cons_succ]
        refine wpAnyH_take (i := 4) (v := ?v5) rfl (by kernel_rfl) (by kernel_rfl) (by kernel_rfl) (fun _ _ _ h => h) (Or.inl ⟨by rfl, ?hy5⟩) (by assumption) ?rest5
        case hy5 => (intro w hSw; (try dsimp only at hSw); go_simp; all_goals (with_reducible rfl))
        simp only [Act.put, List.getElem_toArray, List.getElem_cons_zero, List.getElem_cons_succ, List.setIfInBounds_toArray, List.set_cons_zero, List.set_cons_succ]
        refine wpAnyH_take (i := 5) (v := ?v6) rfl (by kernel_rfl) (by kernel_rfl) (by kernel_rfl) (fun _ _ _ h => h) (Or.inl ⟨by rfl, ?hy6⟩) (by assumption) ?rest6
        case hy6 => (intro w hSw; (try dsimp only at hSw); have k5 := hSw.2.2.1; go_simp; all_goals (with_reducible rfl))
        simp only [Act.put, List.getElem_toArray, List.getElem_cons_zero, List.getElem_cons_succ, List.setIfInBounds_toArray, List.set_cons_zero, List.set_cons_succ]
        refine wpAnyH_take (i := 6) (v := ?v7) rfl (by kernel_rfl) (by kernel_rfl) (by kernel_rfl) (fun _ _ _ h => h) (Or.inl ⟨by rfl, ?hy7⟩) (by assumption) ?rest7
        case hy7 => (intro w hSw; (try dsimp only at hSw); have k6 := hSw.2.2.2.1; go_simp; all_goals (with_reducible rfl))
        simp only [Act.put, List.getElem_toArray, List.getElem_cons_zero, List.getElem_cons_succ, List.setIfInBounds_toArray, List.set_cons_zero, List.set_cons_succ]
        refine wpAnyH_take (i := 8) (v := ?v8) rfl (by kernel_rfl) (by kernel_rfl) (by kernel_rfl) (fun _ _ _ h => h) (Or.inl ⟨by rfl, ?hy8⟩) (by assumption) ?rest8
        case hy8 => (intro w hSw; (try dsimp only at hSw); go_simp; all_goals (with_reducible rfl))
        simp only [Act.put, List.getElem_toArray, List.getElem_cons_zero, List.getElem_cons_succ, List.setIfInBounds_toArray, List.set_cons_zero, List.set_cons_succ]
        refine wpAnyH_take (i := 9) (v := ?v9) rfl (by kernel_rfl) (by kernel_rfl) (by kernel_rfl) (fun _ _ _ h => h) (Or.inl ⟨by rfl, ?hy9⟩) (by assumption) ?rest9
        case hy9 => (intro w hSw; (try dsimp only at hSw); go_simp; all_goals (with_reducible rfl))
        simp only [Act.put, List.getElem_toArray, List.getElem_cons_zero, List.getElem_cons_succ, List.setIfInBounds_toArray, List.set_cons_zero, List.set_cons_succ]
        refine wpAnyH_take (i := 10) (v := ?v10) rfl (by kernel_rfl) (by kernel_rfl) (by kernel_rfl) (fun _ _ _ h => h) (Or.inl ⟨by rfl, ?hy10⟩) (by assumption) ?rest10
        case hy10 => (intro w hSw; (try dsimp only at hSw); go_simp; all_goals (with_reducible rfl))
        simp only [Act.put, List.getElem_toArray, List.getElem_cons_zero, List.getElem_cons_succ, List.setIfInBounds_toArray, List.set_cons_zero, List.set_cons_succ]
        refine wpAnyH_take (i := 11) (v := ?v11) rfl (by kernel_rfl) (by kernel_rfl) (by kernel_rfl) (fun _ _ _ h => h) (Or.inl ⟨by rfl, ?hy11⟩) (by assumption) ?rest11
        case hy11 => (intro w hSw; (try dsimp only at hSw); have k3 := hSw.2.1; go_simp; all_goals (with_reducible rfl))
        simp only [Act.put, List.getElem_toArray, List.getElem_cons_zero, List.getElem_cons_succ, List.setIfInBounds_toArray, List.set_cons_zero, List.set_cons_succ]
        refine wpAnyH_take (i := 12) (v := ?v12) rfl (by kernel_rfl) (by kernel_rfl) (by kernel_rfl) (fun _ _ _ h => h) (Or.inl ⟨by rfl, ?hy12⟩) (by assumption) ?rest12
        case hy12 => (intro w hSw; (try dsimp only at hSw); go_simp; all_goals (with_reducible rfl))
        simp only [Act.put, List.getElem_toArray, List.getElem_cons_zero, List.getElem_cons_succ, List.setIfInBounds_toArray, List.set_cons_zero, List.set_cons_succ]
        refine wpAnyH_take (i := 13) (v := ?v13) rfl (by kernel_rfl) (by kernel_rfl) (by kernel_rfl) (fun _ _ _ h => h) (Or.inl ⟨by rfl, ?hy13⟩) (by assumption) ?rest13
        case hy13 => (intro w hSw; (try dsimp only at hSw); have k5 := hSw.2.2.1; go_simp; all_goals (with_reducible rfl))
        simp only [Act.put, List.getElem_toArray, List.getElem_cons_zero, List.getElem_cons_succ, List.setIfInBounds_toArray, List.set_cons_zero, List.set_cons_succ]
        refine wpAnyH_take (i := 14) (v := .agg (b64 x).toArray) rfl (by kernel_rfl) (by kernel_rfl) (by kernel_rfl) (fun _ _ _ h => h) (yieldsIf_load_mid (by rfl) 57 _ rfl b14 (0) rfl (b64 x) _ (fun w hSw => hSw.2.2.2.2) Tryd.underlying57 rfl (sizeSet9 _)) (by assumption) ?_
        simp only [Act.put, List.getElem_toArray, List.getElem_cons_zero, List.getElem_cons_succ, List.setIfInBounds_toArray, List.set_cons_zero, List.set_cons_succ]
        refine wpAnyH_ready (rs := [7]) (by kernel_rfl) (by simp) ?_
        refine AllReadyH.cons rfl (fun K hK => ?_) AllReadyH.nil
        go_simp
        refine (hc1 _ o4 Q5d).mono ?_
        rintro e w6 ⟨rfl, o6, q6, s6⟩
        have y6 := HK1.out _ _ q6 s6
        dsimp only
        refine hK.out _ _ y6 (fun hHeld => ?_)
        clear hK K
        try simp only [Act.put, List.getElem_toArray, List.getElem_cons_zero, List.getElem_cons_succ, List.setIfInBounds_toArray, List.set_cons_zero, List.set_cons_succ]
        refine wpAnyH_ready (rs := [15]) (by kernel_rfl) (by simp) ?_
        refine AllReadyH.cons rfl (fun K hK => ?_) AllReadyH.nil
        go_simp
        refine (hc2 _ o6 q6).mono ?_
        rintro e w7 ⟨rfl, o7, q7, s7⟩
        obtain ⟨y7, F1⟩ := HK2.out _ _ _ _ q6 s6 q7 s7
        dsimp only
        refine hK.out _ _ y7 (fun hHeld => ?_)
        clear hK K
        try simp only [Act.put, List.getElem_toArray, List.getElem_cons_zero, List.getElem_cons_succ, List.setIfInBounds_toArray, List.set_cons_zero, List.set_cons_succ]
        refine wpAnyH_take (i := 16) (v := ?v14) rfl (by kernel_rfl) (by kernel_rfl) (by kernel_rfl) (fun _ _ _ h => h) (Or.inl ⟨by rfl, ?hy14⟩) (by assumption) ?rest14
        case hy14 => (intro w hSw; (try dsimp only at hSw); go_simp; all_goals (with_reducible rfl))
        simp only [Act.put, List.getElem_toArray, List.getElem_cons_zero, List.getElem_cons_succ, List.setIfInBounds_toArray, List.set_cons_zero, List.set_cons_succ]
        refine wpAnyH_take (i := 17) (v := ?v15) rfl (by kernel_rfl) (by kernel_rfl) (by kernel_rfl) (fun _ _ _ h => h) (Or.inl ⟨by rfl, ?hy15⟩) (by assumption) ?rest15
        case hy15 => (intro w hSw; (try dsimp only at hSw); go_simp; all_goals (with_reducible rfl))
        simp only [Act.put, List.getElem_toArray, List.getElem_cons_zero, List.getElem_cons_succ, List.setIfInBounds_toArray, List.set_cons_zero, List.set_cons_succ]
        refine wpAnyH_done (by kernel_rfl) ?_ _
        refine NoPanic.normal ?_
        go_wp2
        go_ret
        first | exact F1 | (simp; exact F1)
    · have hkI : ¬ (k : Int) < (len : Int) := by omega
      have u4 := st.labelled 95
      have R4 := r10.step ((Step.refl (fun _ => False) wr o2).labelled 95) id
      have Q4 := sta0.st Q1 u4 (fun j hj => by unfold SB at hj; omega) (by omega)
      have S4 : Step (fun k => SB B k ∨ (90 ≤ k ∧ k < 300)) w o wr (newLab wr o2 95) := S1.trans (u4.mono fun j hj => (by omega : SB B j ∨ (90 ≤ j ∧ j < 300)))
      have x4 := HX.out _ _ u4
      have l3 : newLab wr o2 95 b3 = 95 := (u4.lab b3 hltb).trans lb3
      have hltb4 : b3 < wr.heap.size := Nat.lt_of_lt_of_le hltb u4.size
      have lbn : ∀ j, wr.heap.size ≤ j → newLab wr o2 95 j = 95 := fun j hj => newLab_new hj
      obtain ⟨a10, c10, hv10, hInt⟩ := R4.ints (fun y hy => by have := pkl_lt y hy; omega)
      have hkM : (pkl f k).length ≤ maxLen := by rw [pkl_len]; unfold maxLen; omega
      subst hv10
      have hofA := of_c wr a10 (pkl f k).length c10 _ hInt hkM
      have hofB := fun wx (hb : Below wr.heap.size wr wx) => refOf_c wx a10 (pkl f k).length c10 _ (hInt.below hb (Nat.le_refl _)) hkM
      generalize hFF : (fun j => (((pkl f k).getD j 0 : Nat) : Int)) = FF at hofA hofB
      generalize hNN : (pkl f k).length = NN at hofA hofB ⊢
      generalize newLab wr o2 95 = o4 at Q4 S4 l3 lbn
      clear R4 r10 st Q1 S1 u4 hInt HI HX hFF hNN hkM
      go_upto_region 17 with fail
      clear y4 HY
      go_cut [12, 13] (fun v12 v13 wx => ∃ b12 x er, v12 = .pointer (some ⟨b12, 0, none⟩) ∧ v13 = .int .i64 er ∧ OfOut FF NN x er ∧ wx.cell? ⟨b12, 0, none⟩ = some (.int .u64 (x : Nat)) ∧ wr.heap.size ≤ b12 ∧ Below wr.heap.size wr wx)
      case first =>
        clear Q4 S4 x4 hofB hcal1 hcal2
        unfold sv at hofA
        go_wp2_with fail
        refine hofA.mono ?_
        rintro e w8 ⟨x, er, rfl, ho, b8⟩
        have q8 := bal b8 (.cells #[.int .u64 (x : Nat)] 42)
        have qc := box_cell w8 (x : Nat) 42
        have qn := b8.size
        go_wp2
        go_meet
        exact ⟨_, x, er, rfl, rfl, ho, qc, qn, q8⟩
      case rest =>
      obtain ⟨b12, x, er, rfl, rfl, ho, x12, hn12, B5⟩ := hcut
      have hxl := ho.lt9
      have hofC := hofB _ B5
      have Q5 := sta0.st Q4 (Step.ofBelow (I := fun _ => False) o4 B5) (fun _ _ => id) id
      have S5 : Step (fun k => SB B k ∨ (90 ≤ k ∧ k < 300)) w o wc o4 := S4.trans (Step.ofBelow o4 B5)
      have x5 := keep_below9 B5 x4
      have l12 : o4 b12 = 95 := lbn b12 hn12
      have hsz5 := B5.size
      clear Q4 S4 x4 hofA hofB B5
      generalize wc = w5 at Q5 S5 x5 x12 hofC hsz5 ⊢
      go_upto_region 18 with fail
      go_cut [14, 15] (fun v14 v15 wx => ∃ b14 er2, v14 = .pointer (some ⟨b14, 0, none⟩) ∧ v15 = .int .i64 er2 ∧ wx.heap[b14]? = some (.cells (b64 x).toArray 57 (0, 0)) ∧ w5.heap.size ≤ b14 ∧ Below w5.heap.size w5 wx)
      case first =>
        clear Q5 S5 x5 x12 hcal1 hcal2
        unfold av at hofC
        go_wp2_with fail
        refine hofC.mono ?_
        rintro e w10 ⟨x2, er2, rfl, ho2, b10⟩
        obtain ⟨rfl, rfl⟩ := ho.uniq ho2
        have q1 := bal b10 (.cells (b64 0).toArray 57)
        have r7 := heap_alloc_new w10 (.cells (b64 0).toArray 57)
        have q2 := below_setCells b10.size (b64 x) 0 _ q1
        have r8 := setCells_row (cs := b64 x) r7 (by rw [b64_len, b64_len])
        have qn := b10.size
        clear q1
        go_wp2_with (first | (refine wpList_alloc9 rfl 57 rfl (some 14) rfl w10.heap.size rfl (.agg (b64 0).toArray) (zero9 _) ?_) | (refine wpList_store_mid rfl 57 _ _ rfl w10.heap.size 0 (b64 x).toArray rfl rfl (there9 r7 x) (size9 _) (all_oneCell_toArray (b64_one _)) ?_))
        go_meet
        exact ⟨_, er, rfl, rfl, r8, qn, q2⟩
      case rest =>
      obtain ⟨b14, er2, rfl, rfl, r14, hn14, B6⟩ := hcut
      have Q6 := sta0.st Q5 (Step.ofBelow (I := fun _ => False) o4 B6) (fun _ _ => id) id
      have S6 : Step (fun k => SB B k ∨ (90 ≤ k ∧ k < 300)) w o wc o4 := S5.trans (Step.ofBelow o4 B6)
      have x6 := keep_below9 B6 x5
      have x12b := keep_below9 B6 x12
      have l14 : o4 b14 = 95 := lbn b14 (by omega)
      clear Q5 S5 x5 x12 hofC B6 ho
      generalize wc = w6 at Q6 S6 x6 x12b r14 ⊢
      go_upto_region 19 with fail
      have h3l : b3 < w6.heap.size := World.block_lt_of_cell? w6 _ x6
      have h12l : b12 < w6.heap.size := World.block_lt_of_cell? w6 _ x12b
      have h14l : b14 < w6.heap.size := lt_of_block r14
      have hc1 := hcal1 x hxl
      have hc2 := hcal2 x hxl
      have Q5d := sta0.st Q6 ((Step.refl (fun _ => False) w6 o4).drew) (fun _ _ => id) id
      have hSB : ¬ SB B 95 := by unfold SB; omega
      have rng : ∀ {wx : World} {ox : Nat → Nat}, Step (SB B) w6 o4 wx ox → wx.cell? ⟨b3, 2, none⟩ = some (.string s) ∧ wx.cell? ⟨b12, 0, none⟩ = some (.int .u64 (x : Nat)) ∧ wx.rangeAt b14 0 (b64 x) := fun {wx ox} t => ⟨(t.cellAt (p := ⟨b3, 2, none⟩) h3l (by show ¬ SB B (o4 b3); rw [l3]; exact hSB)).trans x6, (t.cellAt (p := ⟨b12, 0, none⟩) h12l (by show ¬ SB B (o4 b12); rw [l12]; exact hSB)).trans x12b, range_blk ((t.block b14 h14l (by rw [l14]; exact hSB)).trans r14)⟩
      have HS : Hid (w6.drew.cell? ⟨ps, 0, none⟩ = some (.pointer (some ⟨pf, 0, none⟩)) ∧ w6.drew.cell? ⟨ps, 1, none⟩ = some (.pointer (some ⟨px, 0, none⟩)) ∧ w6.drew.cell? ⟨b3, 2, none⟩ = some (.string s) ∧ w6.drew.cell? ⟨b12, 0, none⟩ = some (.int .u64 (x : Nat)) ∧ w6.drew.rangeAt b14 0 (b64 x)) := ⟨sta0.c0 Q5d, sta0.c1 Q5d, rng ((Step.refl _ w6 o4).drew)⟩
      have HK1 : Hid (∀ wA oA, Q1' x wA oA → Step (SB B) w6.drew o4 wA oA → wA.cell? ⟨ps, 0, none⟩ = some (.pointer (some ⟨pf, 0, none⟩)) ∧ wA.cell? ⟨ps, 1, none⟩ = some (.pointer (some ⟨px, 0, none⟩)) ∧ wA.cell? ⟨b3, 2, none⟩ = some (.string s) ∧ wA.cell? ⟨b12, 0, none⟩ = some (.int .u64 (x : Nat)) ∧ wA.rangeAt b14 0 (b64 x)) := fun wA oA q t => ⟨(sta1 x).c0 q, (sta1 x).c1 q, rng ((Step.refl _ w6 o4).drew.trans t)⟩
      have HK2 : Hid (∀ wA oA wB oB, Q1' x wA oA → Step (SB B) w6.drew o4 wA oA → Q2' x wB oB → Step (SB B) wA oA wB oB → (wB.cell? ⟨ps, 0, none⟩ = some (.pointer (some ⟨pf, 0, none⟩)) ∧ wB.cell? ⟨ps, 1, none⟩ = some (.pointer (some ⟨px, 0, none⟩)) ∧ wB.cell? ⟨b3, 2, none⟩ = some (.string s) ∧ wB.cell? ⟨b12, 0, none⟩ = some (.int .u64 (x : Nat)) ∧ wB.rangeAt b14 0 (b64 x)) ∧ StO w o B (fun w o => ∃ x, x < top64 ∧ Q2' x w o) (.returned (.bool true)) wB) := fun wA oA wB oB q t q2 t2 => by
        have u := (Step.refl (SB B) w6 o4).drew.trans (t.trans t2)
        exact ⟨⟨(sta2 x).c0 q2, (sta2 x).c1 q2, rng u⟩, rfl, oB, ⟨x, hxl, q2⟩, S6.trans (u.mono fun k h => Or.inl h)⟩
      unfold sv at hc1
      unfold av at hc2
      clear Q6 S6 x6 x12b rng r14 hcal1 hcal2 h3l h12l h14l
      refine wp_region_noPanic ?_
      refine wp_region_held_drew (S := fun wx => wx.cell? ⟨ps, 0, none⟩ = some (.pointer (some ⟨pf, 0, none⟩)) ∧ wx.cell? ⟨ps, 1, none⟩ = some (.pointer (some ⟨px, 0, none⟩)) ∧ wx.cell? ⟨b3, 2, none⟩ = some (.string s) ∧ wx.cell? ⟨b12, 0, none⟩ = some (.int .u64 (x : Nat)) ∧ wx.rangeAt b14 0 (b64 x)) (by kernel_rfl) HS.out (fun hHeld => ?_)
      refine wpAnyH_take (i := 0) (v := ?v16) rfl (by kernel_rfl) (by kernel_rfl) (by kernel_rfl) (fun _ _ _ h => h) (Or.inl ⟨by rfl, ?hy16⟩) (by assumption) ?rest16
      case hy16 => (intro w hSw; (try dsimp only at hSw); go_simp; all_goals (with_reducible rfl))
      simp only [Act.put, List.getElem_toArray, List.getElem_cons_zero, List.getElem_cons_succ, List.setIfInBounds_toArray, List.set_cons_zero, List.set_cons_succ]
      refine wpAnyH_take (i := 1) (v := ?v17) rfl (by kernel_rfl) (by kernel_rfl) (by kernel_rfl) (fun _ _ _ h => h) (Or.inl ⟨by rfl, ?hy17⟩) (by assumption) ?rest17
      case hy17 => (intro w hSw; (try dsimp only at hSw); go_simp; all_goals (with_reducible rfl))
      simp only [Act.put, List.getElem_toArray, List.getElem_cons_zero, List.getElem_cons_succ, List.setIfInBounds_toArray, List.set_cons_zero, List.set_cons_succ]
      refine wpAnyH_take (i := 2) (v := ?v18) rfl (by kernel_rfl) (by kernel_rfl) (by kernel_rfl) (fun _ _ _ h => h) (Or.inl ⟨by rfl, ?hy18⟩) (by assumption) ?rest18
      case hy18 => (intro w hSw; (try dsimp only at hSw); go_simp; all_goals (with_reducible rfl))
      simp only [Act.put, List.getElem_toArray, List.getElem_cons_zero, List.getElem_cons_succ, List.setIfInBounds_toArray, List.set_cons_zero, List.set_cons_succ]
      refine wpAnyH_take (i := 3) (v := ?v19) rfl (by kernel_rfl) (by kernel_rfl) (by kernel_rfl) (fun _ _ _ h => h) (Or.inl ⟨by rfl, ?hy19⟩) (by assumption) ?rest19
      case hy19 => (intro w hSw; (try dsimp only at hSw); have k3 := hSw.1; go_simp; all_goals (with_reducible rfl))
      simp only [Act.put, List.getElem_toArray, List.getElem_cons_zero, List.getElem_cons_succ, List.setIfInBounds_toArray, List.set_cons_zero, List.set_cons_succ]
      refine wpAnyH_take (i := 4) (v := ?v20) rfl (by kernel_rfl) (by kernel_rfl) (by kernel_rfl) (fun _ _ _ h => h) (Or.inl ⟨by rfl, ?hy20⟩) (by assumption) ?rest20
      case hy20 => (intro w hSw; (try dsimp only at hSw); go_simp; all_goals (with_reducible rfl))
      simp only [Act.put, List.getElem_toArray, List.getElem_cons_zero, List.getElem_cons_succ, List.setIfInBounds_toArray, List.set_cons_zero, List.set_cons_succ]
      refine wpAnyH_take (i := 5) (v := ?v21) rfl (by kernel_rfl) (by kernel_rfl) (by kernel_rfl) (fun _ _ _ h => h) (Or.inl ⟨by rfl, ?hy21⟩) (by assumption) ?rest21
      case hy21 => (intro w hSw; (try dsimp only at hSw); have k5 := hSw.2.2.1; go_simp; all_goals (with_reducible rfl))
      simp only [Act.put, List.getElem_toArray, List.getElem_cons_zero, List.getElem_cons_succ, List.setIfInBounds_toArray, List.set_cons_zero, List.set_cons_succ]
      refine wpAnyH_take (i := 6) (v := ?v22) rfl (by kernel_rfl) (by kernel_rfl) (by kernel_rfl) (fun _ _ _ h => h) (Or.inl ⟨by rfl, ?hy22⟩) (by assumption) ?rest22
      case hy22 => (intro w hSw; (try dsimp only at hSw); have k6 := hSw.2.2.2.1; go_simp; all_goals (with_reducible rfl))
      simp only [Act.put, List.getElem_toArray, List.getElem_cons_zero, List.getElem_cons_succ, List.setIfInBounds_toArray, List.set_cons_zero, List.set_cons_succ]
      refine wpAnyH_take (i := 8) (v := ?v23) rfl (by kernel_rfl) (by kernel_rfl) (by kernel_rfl) (fun _ _ _ h => h) (Or.inl ⟨by rfl, ?hy23⟩) (by assumption) ?rest23
      case hy23 => (intro w hSw; (try dsimp only at hSw); go_simp; all_goals (with_reducible rfl))
      simp only [Act.put, List.getElem_toArray, List.getElem_cons_zero, List.getElem_cons_succ, List.setIfInBounds_toArray, List.set_cons_zero, List.set_cons_succ]
      refine wpAnyH_take (i := 9) (v := ?v24) rfl (by kernel_rfl) (by kernel_rfl) (by kernel_rfl) (fun _ _ _ h => h) (Or.inl ⟨by rfl, ?hy24⟩) (by assumption) ?rest24
      case hy24 => (intro w hSw; (try dsimp only at hSw); go_simp; all_goals (with_reducible rfl))
      simp only [Act.put, List.getElem_toArray, List.getElem_cons_zero, List.getElem_cons_succ, List.setIfInBounds_toArray, List.set_cons_zero, List.set_cons_succ]
      refine wpAnyH_take (i := 10) (v := ?v25) rfl (by kernel_rfl) (by kernel_rfl) (by kernel_rfl) (fun _ _ _ h => h) (Or.inl ⟨by rfl, ?hy25⟩) (by assumption) ?rest25
      case hy25 => (intro w hSw; (try dsimp only at hSw); go_simp; all_goals (with_reducible rfl))
      simp only [Act.put, List.getElem_toArray, List.getElem_cons_zero, List.getElem_cons_succ, List.setIfInBounds_toArray, List.set_cons_zero, List.set_cons_succ]
      refine wpAnyH_take (i := 11) (v := ?v26) rfl (by kernel_rfl) (by kernel_rfl) (by kernel_rfl) (fun _ _ _ h => h) (Or.inl ⟨by rfl, ?hy26⟩) (by assumption) ?rest26
      case hy26 => (intro w hSw; (try dsimp only at hSw); have k3 := hSw.2.1; go_simp; all_goals (with_reducible rfl))
      simp only [Act.put, List.getElem_toArray, List.getElem_cons_zero, List.getElem_cons_succ, List.setIfInBounds_toArray, List.set_cons_zero, List.set_cons_succ]
      refine wpAnyH_take (i := 12) (v := ?v27) rfl (by kernel_rfl) (by kernel_rfl) (by kernel_rfl) (fun _ _ _ h => h) (Or.inl ⟨by rfl, ?hy27⟩) (by assumption) ?rest27
      case hy27 => (intro w hSw; (try dsimp only at hSw); go_simp; all_goals (with_reducible rfl))
      simp only [Act.put, List.getElem_toArray, List.getElem_cons_zero, List.getElem_cons_succ, List.setIfInBounds_toArray, List.set_cons_zero, List.set_cons_succ]
      refine wpAnyH_take (i := 13) (v := ?v28) rfl (by kernel_rfl) (by kernel_rfl) (by kernel_rfl) (fun _ _ _ h => h) (Or.inl ⟨by rfl, ?hy28⟩) (by assumption) ?rest28
      case hy28 => (intro w hSw; (try dsimp only at hSw); have k5 := hSw.2.2.1; go_simp; all_goals (with_reducible rfl))
      simp only [Act.put, List.getElem_toArray, List.getElem_cons_zero, List.getElem_cons_succ, List.setIfInBounds_toArray, List.set_cons_zero, List.set_cons_succ]
      refine wpAnyH_take (i := 14) (v := .agg (b64 x).toArray) rfl (by kernel_rfl) (by kernel_rfl) (by kernel_rfl) (fun _ _ _ h => h) (yieldsIf_load_mid (by rfl) 57 _ rfl b14 (0) rfl (b64 x) _ (fun w hSw => hSw.2.2.2.2) Tryd.underlying57 rfl (sizeSet9 _)) (by assumption) ?_
      simp only [Act.put, List.getElem_toArray, List.getElem_cons_zero, List.getElem_cons_succ, List.setIfInBounds_toArray, List.set_cons_zero, List.set_cons_succ]
      refine wpAnyH_ready (rs := [7]) (by kernel_rfl) (by simp) ?_
      refine AllReadyH.cons rfl (fun K hK => ?_) AllReadyH.nil
      go_simp
      refine (hc1 _ o4 Q5d).mono ?_
      rintro e w6 ⟨rfl, o6, q6, s6⟩
      have y6 := HK1.out _ _ q6 s6
      dsimp only
      refine hK.out _ _ y6 (fun hHeld => ?_)
      clear hK K
      try simp only [Act.put, List.getElem_toArray, List.getElem_cons_zero, List.getElem_cons_succ, List.setIfInBounds_toArray, List.set_cons_zero, List.set_cons_succ]
      refine wpAnyH_ready (rs := [15]) (by kernel_rfl) (by simp) ?_
      refine AllReadyH.cons rfl (fun K hK => ?_) AllReadyH.nil
      go_simp
      refine (hc2 _ o6 q6).mono ?_
      rintro e w7 ⟨rfl, o7, q7, s7⟩
      obtain ⟨y7, F1⟩ := HK2.out _ _ _ _ q6 s6 q7 s7
      dsimp only
      refine hK.out _ _ y7 (fun hHeld => ?_)
      clear hK K
      try simp only [Act.put, List.getElem_toArray, List.getElem_cons_zero, List.getElem_cons_succ, List.setIfInBounds_toArray, List.set_cons_zero, List.set_cons_succ]
      refine wpAnyH_take (i := 16) (v := ?v29) rfl (by kernel_rfl) (by kernel_rfl) (by kernel_rfl) (fun _ _ _ h => h) (Or.inl ⟨by rfl, ?hy29⟩) (by assumption) ?rest29
      case hy29 => (intro w hSw; (try dsimp only at hSw); go_simp; all_goals (with_reducible rfl))
      simp only [Act.put, List.getElem_toArray, List.getElem_cons_zero, List.getElem_cons_succ, List.setIfInBounds_toArray, List.set_cons_zero, List.set_cons_succ]
      refine wpAnyH_take (i := 17) (v := ?v30) rfl (by kernel_rfl) (by kernel_rfl) (by kernel_rfl) (fun _ _ _ h => h) (Or.inl ⟨by rfl, ?hy30⟩) (by assumption) ?rest30
      case hy30 => (intro w hSw; (try dsimp only at hSw); go_simp; all_goals (with_reducible rfl))
      simp only [Act.put, List.getElem_toArray, List.getElem_cons_zero, List.getElem_cons_succ, List.setIfInBounds_toArray, List.set_cons_zero, List.set_cons_succ]
      refine wpAnyH_done (by kernel_rfl) ?_ _
      refine NoPanic.normal ?_
      go_wp2
      go_ret
      first | exact F1 | (simp; exact F1)
theorem step_4 (w : World) (o : Nat → Nat) (B ps : Nat) (hB : 1000 ≤ B) (h : SX B ps w o) (n : Int) (s : ByteArray) (hs : s.size ≤ maxLen) (ao : Option Addr) (len cap : Nat) (ot : Bool) (f : Nat → Int) (hI : Ints w ao len f) (hlab : ∀ ad, ao = some ad → 0 < len → o ad.block = 0) (hmx : len ≤ maxLen) :
    Calls Tryd.prog 6 #[.pointer (some ⟨ps, 0, none⟩), .agg #[.int .i64 4, .int .i64 n, .string s, .slice ao len cap, .bool ot]] w fun e w' => StO w o B (SX B ps) e w' := by
  obtain ⟨pf, px, N, ls, F, m, NL, xs, fn, q⟩ := h
  have fin : ∀ F' m' w o, SE B ps pf px N ls F' m' w o → SX B ps w o := fun F' m' w o ⟨NL', xs', f', h'⟩ => ⟨pf, px, N, ls, F', m', NL', xs', f', h'⟩
  have same : ∀ w o, SQ B ps pf px N ls F m NL xs m w o → SE B ps pf px N ls F m w o := fun w o h => ⟨NL, xs, fn, h⟩
  have fam : ∀ {w : World} {o : Nat → Nat}, SQ B ps pf px N ls F m NL xs m w o → Fam w o (B + 1000) pf m F := fun ⟨_, _, _, _, _, h, _⟩ => h
  have rx : ∀ {w : World} {o : Nat → Nat} {F' m'}, SQ B ps pf px N ls F' m' NL xs m w o → RX w o (B + 1) px m NL xs := fun ⟨_, _, _, _, _, _, h, _⟩ => h
  have hle := fn.le
  by_cases hin : s ∈ NL
  · have hf := (fn.mem s).1 hin
    refine (step_4g w o B ps pf px hB _ (fun x => SQ B ps pf px N ls (updN F s (some x)) m NL xs m) (fun x => SE B ps pf px N ls (updN F s (some x)) m) (SQ.sta ..) (fun x => SQ.sta ..) (fun x => SE.sta ..) q n s ao len cap ot 0 f hI hlab hmx (fun x hx wx ox h => (lay_ok wx ox (B + 1000) pf m F s x (fam h) hs hf (by omega)).mono fun e w' ⟨h1, h2, h3⟩ => ⟨h1, ox, h.fam h2 (h3.mono fun k hk => by omega) (by omega), h3.mono fun k hk => by unfold SB; omega⟩) (fun x hx wx ox h => (refLay_ok wx ox (B + 1) px m NL xs s x (rx h) fn.le hin).mono fun e w' hA => ?_)).mono fun e w' h => h.mono fun w o ⟨x, _, h⟩ => fin _ _ w o h
    obtain ⟨k, hk, h1, h3, h4, h5⟩ := hA
    exact ⟨h3, ox, ⟨_, _, fn.lay hk h1 hx, h.ref h4 h5 (by omega)⟩, h5.mono fun k hk => by unfold LL at hk; unfold SB; omega⟩
  · have hf : (F s).isSome = false := by
      cases hq : (F s).isSome with
      | false => rfl
      | true => exact absurd ((fn.mem s).2 hq) hin
    refine (step_4g w o B ps pf px hB _ (fun x => SQ B ps pf px N ls F m NL xs m) (fun x => SE B ps pf px N ls F m) (SQ.sta ..) (fun x => SQ.sta ..) (fun x => SE.sta ..) q n s ao len cap ot 93 f hI hlab hmx (fun x hx wx ox h => (lay_no wx ox (B + 1000) pf m F s x (fam h) hs hf).mono fun e w' ⟨h1, h2⟩ => ⟨h1, h.below h2⟩) (fun x hx wx ox h => (refLay_no wx ox (B + 1) px m NL xs s x (rx h) fn.le hin).mono fun e w' ⟨h1, h2⟩ => ?_)).mono fun e w' h => h.mono fun w o ⟨x, _, h⟩ => fin _ _ w o h
    obtain ⟨o', h3, h4⟩ := h.below h2
    exact ⟨h1, o', same _ _ h3, h4⟩
end Go.Proofs.YtmpkhbblakfglaaDoor
