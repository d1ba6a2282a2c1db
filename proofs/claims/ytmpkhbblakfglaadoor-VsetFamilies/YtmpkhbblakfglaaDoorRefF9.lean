/- The document's own sets: of a list. -/
import Derived.Test.YtmpkhbblakfglaaDoorRefT9
import Derived.Test.YtmpkhbblakfglaaDoorOfC
namespace Go.Proofs.YtmpkhbblakfglaaDoor
open Go.ChangeShapes Go.WideShapes Go.ChangeAt Go.RowKit Go.Maps
set_option linter.unusedVariables false
set_option linter.unusedSimpArgs false

/-- What Of gives is one. -/
theorem OfOut.uniq {f : Nat → Int} {n s s' : Nat} {e e' : Int} (h : OfOut f n s e) (k : OfOut f n s' e') : s = s' ∧ e = e' := by
  rcases h with ⟨h1, h2, h3⟩ | ⟨h1, h2, j, h3, h4⟩ <;> rcases k with ⟨k1, k2, k3⟩ | ⟨k1, k2, i, k3, k4⟩
  · exact ⟨by rw [h3, k3], by rw [h1, k1]⟩
  · have := h2 i k3; omega
  · have := k2 j h3; omega
  · exact ⟨by rw [h2, k2], by rw [h1, k1]⟩
/-- Between two rounds. -/
structure OfK (w wr : World) (b2 b4 s : Nat) : Prop where
  h2 : wr.heap[b2]? = some (.cells (b64 0).toArray 57 (0, 0))
  h4 : wr.heap[b4]? = some (.cells (b64 s).toArray 57 (0, 0))
  ne : b2 ≠ b4
  m2 : w.heap.size ≤ b2
  m4 : w.heap.size ≤ b4
  B : Below w.heap.size w wr
theorem OfK.next {w wr : World} {b2 b4 s m : Nat} (J : OfK w wr b2 b4 s) (hs : s < top64) (hm : m < 64) : OfK w (wr.setCell ⟨b4, m, none⟩ (.bool true)) b2 b4 (s ||| bt m) := by
  refine ⟨?_, ?_, J.ne, J.m2, J.m4, J.B.setCell (p := ⟨b4, m, none⟩) J.m4 _⟩
  · rw [Below.heap_setCell _ _ _ _ J.ne]; exact J.h2
  · have := set_blk (n := m) J.h4 (.bool true)
    rw [b64_set hs hm] at this
    exact this
set_option maxRecDepth 100000 in
set_option maxHeartbeats 4000000 in
theorem refOf_c (w : World) (ao : Option Addr) (n cap : Nat) (f : Nat → Int) (h : Ints w ao n f) (hn : n ≤ maxLen) :
    Calls Tryd.prog 21 #[.slice ao n cap] w fun e w' => ∃ s er, e = .returned (.tuple #[av s, .int .i64 er]) ∧ OfOut f n s er ∧ Below w.heap.size w w' := by
  have HI : Hid (Ints w ao n f) := h
  unfold maxLen at hn
  clear h
  obtain ⟨w2, hw2⟩ : ∃ w2, w2 = w.alloc (.cells (b64 0).toArray 57) := ⟨_, rfl⟩
  obtain ⟨b2, hb2⟩ : ∃ b, b = w.heap.size := ⟨_, rfl⟩
  have e2 : w2.heap[b2]? = some (.cells (b64 0).toArray 57 (0, 0)) := by subst hw2 hb2; exact heap_alloc_new w _
  have eB : Below w.heap.size w w2 := by rw [hw2]; exact bal (b0 w) _
  have HE : Hid (w2.heap.size = w.heap.size + 1) := by rw [hw2]; simp [Hid]
  have HW2 : Hid (w2 = w.alloc (.cells (b64 0).toArray 57)) := hw2
  have HB2 : Hid (b2 = w.heap.size) := hb2
  clear hw2 hb2
  go_enter Tryd.func21, Tryd.ntmps21
  go_upto_region 1 with fail
  rw [turn9 (w := w) (w1 := w2) ?hW]
  case hW => rw [HW2.out]; kernel_rfl
  rw [← HB2.out]
  obtain ⟨b4, hb4⟩ : ∃ b, b = w2.heap.size := ⟨_, rfl⟩
  have e4 : (w2.alloc (.cells (b64 0).toArray 57)).heap[b4]? = some (.cells (b64 0).toArray 57 (0, 0)) := by rw [hb4]; exact heap_alloc_new w2 _
  have START : OfK w ((w2.alloc (.cells (b64 0).toArray 57)).setCells b4 0 (b64 0)) b2 b4 (ofs f 0) := by
    have q1 := HB2.out
    have q4 := HE.out
    have l2 : b2 ≠ b4 := by omega
    refine ⟨?_, ?_, l2, by omega, by omega, below_setCells (by omega) _ _ _ (bal eB _)⟩
    · rw [setCells_other l2, Below.heap_alloc _ _ _ (by omega)]; exact e2
    · exact setCells_row e4 rfl
  refine wp_region_lit ?_
  refine wpList_buildTo rfl 57 #[] rfl (some 7) rfl (b64 0).toArray (by simpa using built9) ?_
  refine wpList_alloc9 rfl 57 rfl (some 4) rfl b4 hb4.symm (.agg (b64 0).toArray) (zero9 _) ?_
  refine wpList_store_mid rfl 57 _ _ rfl b4 0 (b64 0).toArray rfl rfl (there9 e4 0) (size9 0) (all_oneCell_toArray (b64_one 0)) ?_
  simp only [Act.put, List.setIfInBounds_toArray, List.set_cons_zero, List.set_cons_succ, Value.cells]
  clear e2 e4 eB HW2 HB2 HE
  generalize (w2.alloc (.cells (b64 0).toArray 57)).setCells b4 0 (b64 0) = w5 at START ⊢
  clear hb4
  go_wp2_with fail
  go_loopg [5] n (fun gh vi wr => ∃ k, k ≤ n ∧ gh = n - k ∧ vi = .int .i64 (k : Nat) ∧ (∀ j, j < k → 0 ≤ f j ∧ f j ≤ 63) ∧ OfK w wr b2 b4 (ofs f k))
  case atStart => exact ⟨0, by omega, by omega, by go_num, fun j hj => by omega, START⟩
  case round =>
    clear START
    obtain ⟨k, hk, rfl, rfl, hin, J⟩ := hrel
    by_cases hkn : k < n
    · have hkI : (k : Int) < (n : Int) := by omega
      obtain ⟨bl, off, rfl, hbl, cl, _, _⟩ := HI.out k hkn
      have ck : wr.cell? ⟨bl, off + k, none⟩ = some (.int .i64 (f k)) := (J.B.cell (p := ⟨bl, off + k, none⟩) hbl).trans cl
      clear cl
      by_cases hfk : 0 ≤ f k ∧ f k < 64
      · have hf := fun wx => fits_c (f k) wx true ⟨fun _ => hfk, fun _ => rfl⟩
        obtain ⟨m, hm⟩ : ∃ m : Nat, f k = (m : Int) := ⟨(f k).toNat, by omega⟩
        have hm64 : m < 64 := by omega
        have hmI : (m : Int) < 64 := by omega
        have hs := ofs_lt f k hin
        have JN := J.next hs hm64
        have HN : Hid ((∀ j, j < k + 1 → 0 ≤ f j ∧ f j ≤ 63) ∧ OfK w (wr.setCell ⟨b4, m, none⟩ (.bool true)) b2 b4 (ofs f (k + 1))) := by
          refine ⟨fun j hj => ?_, ?_⟩
          · by_cases e : j = k
            · subst e; omega
            · exact hin j (by omega)
          · show OfK w _ b2 b4 (ofs f k ||| bt (f k).toNat)
            rw [show (f k).toNat = m by omega]
            exact JN
        have c4 := blk_cell J.h4 hm64
        have f4 : wr.frozen? ⟨b4, m, none⟩ = false := frozen_of_row wr b4 m _ _ J.h4
        generalize (ofs f k).testBit m = ub at c4
        rw [hm] at ck hf
        clear hfk JN J hin hm hs
        go_wp2_with fail
        refine (hf _).mono ?_
        rintro e w6 ⟨rfl, rfl⟩
        clear hf
        go_wp2
        go_roundg (n - (k + 1))
        case measure => omega
        case rel => exact ⟨k + 1, by omega, rfl, by go_num, HN.out.1, HN.out.2⟩
      · have hf := fun wx => fits_c (f k) wx false ⟨fun h => (by cases h), fun h => absurd h hfk⟩
        have HO : Hid (OfOut f n 0 1) := .inr ⟨rfl, rfl, k, hkn, by omega⟩
        have B9 := below_setCells J.m2 (b64 0) 0 wr J.B
        have r9 : (wr.setCells b2 0 (b64 0)).rangeAt b2 0 (b64 0) := range_blk (setCells_row J.h2 rfl)
        have hld := run_loadVar_mid (P := Tryd.prog) _ _ _ _ (b64 0) _ r9 Tryd.underlying57 rfl (sizeSet9 0)
        have t2 := there9 J.h2 0
        generalize f k = fk at ck hf
        clear J hin hfk
        go_wp2_with fail
        refine (hf _).mono ?_
        rintro e w6 ⟨rfl, rfl⟩
        clear hf ck
        go_upto_region 7 with fail
        refine wp_region_lit ?_
        refine wpList_buildTo rfl 57 #[] rfl (some 21) rfl (b64 0).toArray (by simpa using built9) ?_
        refine wpList_store_mid rfl 57 _ _ rfl b2 0 (b64 0).toArray rfl rfl t2 (size9 0) (all_oneCell_toArray (b64_one 0)) ?_
        simp only [Act.put, List.setIfInBounds_toArray, List.set_cons_zero, List.set_cons_succ]
        go_wp2
        refine bodyPost_ret (v := .tuple #[.agg (b64 0).toArray, .int .i64 1]) ?_ rfl ⟨0, 1, rfl, HO.out, B9⟩
        rw [results_cell_tmp rfl]
        simp [asAddr, Result.andThen, hld]
    · obtain rfl : k = n := by omega
      have HO : Hid (OfOut f k (ofs f k) 0) := .inl ⟨rfl, hin, rfl⟩
      generalize ofs f k = z at J HO
      have r7 := range_blk J.h4
      have B9 := below_setCells J.m2 (b64 z) 0 wr J.B
      have r9 : (wr.setCells b2 0 (b64 z)).rangeAt b2 0 (b64 z) := range_blk (setCells_row J.h2 (by rw [b64_len, b64_len]))
      have hld := run_loadVar_mid (P := Tryd.prog) _ _ _ _ (b64 z) _ r9 Tryd.underlying57 rfl (sizeSet9 z)
      have t6 := there9 J.h2 z
      clear J hin
      go_wp2_with (first | (refine wpList_load_mid rfl 57 _ rfl b4 0 rfl (b64 z) _ r7 Tryd.underlying57 rfl (sizeSet9 z) ?_) | (refine wpList_store_mid rfl 57 _ _ rfl b2 0 (b64 z).toArray rfl rfl t6 (size9 z) (all_oneCell_toArray (b64_one z)) ?_))
      refine bodyPost_ret (v := .tuple #[.agg (b64 z).toArray, .int .i64 0]) ?_ rfl ⟨z, 0, rfl, HO.out, B9⟩
      rw [results_cell_tmp rfl]
      simp [asAddr, Result.andThen, hld]
end Go.Proofs.YtmpkhbblakfglaaDoor
