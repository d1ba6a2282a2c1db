/- The document's own sets: 64 bools. -/
import Derived.Test.YtmnmjmhmdnjdlaaDoorBits9
import Derived.Laws.ResultCell
import Derived.Great.BuildSlice
namespace Go.Proofs.YtmnmjmhmdnjdlaaDoor
open Go.ChangeShapes Go.WideShapes Go.ChangeAt Go.RowKit Go.Maps
set_option linter.unusedVariables false
set_option linter.unusedSimpArgs false

theorem fits_c (n : Int) (w : World) (b : Bool) (hb : b = true ↔ 0 ≤ n ∧ n < 64) :
    Calls Tryd.prog 26 #[.int .i64 n] w fun e w' => e = .returned (.bool b) ∧ w' = w := by
  by_cases u1 : 0 ≤ n
  · by_cases u2 : n < 64
    · obtain rfl : b = true := hb.2 ⟨u1, u2⟩
      clear hb
      go_enter Tryd.func26, Tryd.ntmps26
      go_wp2
      go_ret
      exact ⟨rfl, rfl⟩
    · obtain rfl : b = false := by cases b with | false => rfl | true => exact absurd (hb.1 rfl).2 u2
      clear hb
      go_enter Tryd.func26, Tryd.ntmps26
      go_wp2
      go_ret
      exact ⟨rfl, rfl⟩
  · obtain rfl : b = false := by cases b with | false => rfl | true => exact absurd (hb.1 rfl).1 u1
    clear hb
    go_enter Tryd.func26, Tryd.ntmps26
    go_wp2
    go_ret
    exact ⟨rfl, rfl⟩
/-- Two new blocks. -/
theorem two9 {w w1 : World} {cs ds : Array Value} {t : TypeId} (h : w1 = (w.alloc (.cells cs t)).alloc (.cells ds t)) {b c : Nat} (hb : b = w.heap.size) (hc : c = w.heap.size + 1) :
    w1.heap[b]? = some (.cells cs t (0, 0)) ∧ w1.heap[c]? = some (.cells ds t (0, 0)) ∧ Below w.heap.size w w1 ∧ b ≠ c ∧ b < w1.heap.size ∧ c < w1.heap.size ∧ w.heap.size ≤ b ∧ w.heap.size ≤ c := by
  subst hb hc h
  refine ⟨?_, ?_, bal (bal (b0 w) _) _, by omega, by simp; omega, by simp, by omega, by omega⟩
  · rw [Below.heap_alloc _ _ _ (by simp)]; exact heap_alloc_new w _
  · have := heap_alloc_new (w.alloc (.cells cs t)) (.cells ds t)
    simpa using this
theorem range_blk {w : World} {b : Nat} {cs : List Value} {t : TypeId} (h : w.heap[b]? = some (.cells cs.toArray t (0, 0))) : w.rangeAt b 0 cs := fun j v hv => by
  rw [cell_of_row w b (0 + j) _ t (0, 0) h]
  simpa using hv
theorem there_blk {w : World} {b n : Nat} {cs : List Value} {t : TypeId} (h : w.heap[b]? = some (.cells cs.toArray t (0, 0))) (hn : cs.length = n) : w.there b 0 n := fun j hj => by
  refine ⟨?_, frozen_of_row w b _ _ t h⟩
  rw [cell_of_row w b (0 + j) _ t (0, 0) h]
  simp [hn, hj]
theorem set_blk {w : World} {b n : Nat} {cs : List Value} {t : TypeId} (h : w.heap[b]? = some (.cells cs.toArray t (0, 0))) (u : Value) : (w.setCell ⟨b, n, none⟩ u).heap[b]? = some (.cells (cs.set n u).toArray t (0, 0)) := by
  have : Blk w (fun _ => 0) 0 b (.cells cs.toArray t (0, 0)) := ⟨h, rfl⟩
  have := (this.set n u).1
  simpa using this
theorem turn9 {w : World} {ob : Obj} {w1 : World} (h : w.alloc ob = w1) : w.alloc ob = w1 := h
theorem below_setCells {a : World} {b : Nat} (hb : a.heap.size ≤ b) : ∀ (cs : List Value) (o : Nat) (w : World), Below a.heap.size a w → Below a.heap.size a (w.setCells b o cs)
  | [], _, _, h => h
  | v :: r, o, w, h => by
    rw [World.setCells]
    exact below_setCells hb r (o + 1) _ (h.setCell (p := ⟨b, o, none⟩) hb v)
set_option maxRecDepth 100000 in
theorem refWith_c (x : Nat) (n : Nat) (on : Bool) (w : World) (hx : x < top64) (hn : n < 64) :
    Calls Tryd.prog 20 #[av x, .int .i64 (n : Nat), .bool on] w fun e w' => e = .returned (.tuple #[av (put1 x n on), .int .i64 0]) ∧ Below w.heap.size w w' := by
  have hf := fun wx => fits_c n wx true ⟨fun _ => ⟨by omega, by omega⟩, fun _ => rfl⟩
  have hl := b64_len x
  have y0 := b64_get x hn
  have HS : Hid ((b64 x).set n (.bool on) = b64 (put1 x n on)) := b64_set hx hn on
  have hsz := sizeSet9 (put1 x n on)
  have hone := b64_one (put1 x n on)
  have hl2 := b64_len (put1 x n on)
  have hz0 := b64_len 0
  unfold av
  generalize b64 x = cs at *
  generalize b64 (put1 x n on) = ds at *
  generalize x.testBit n = u0 at y0
  have hnI : (n : Int) < 64 := by omega
  go_enter Tryd.func20, Tryd.ntmps20
  go_wp2_with fail
  refine (hf _).mono ?_
  rintro e w0 ⟨rfl, rfl⟩
  clear hf
  obtain ⟨w1, hw1⟩ : ∃ w1, w1 = (w.alloc (.cells cs.toArray 31)).alloc (.cells (b64 0).toArray 31) := ⟨_, rfl⟩
  obtain ⟨b2, hb2⟩ : ∃ b, b = w.heap.size := ⟨_, rfl⟩
  obtain ⟨b6, hb6⟩ : ∃ b, b = w.heap.size + 1 := ⟨_, rfl⟩
  obtain ⟨k1, k2, B1, hne, l1, l2, m1, m2⟩ := two9 hw1 hb2 hb6
  rw [turn9 (w := w.alloc (.cells cs.toArray 31)) (w1 := w1) ?hW]
  case hW => rw [hw1]; kernel_rfl
  rw [← hb6, ← hb2]
  clear hw1 hb2 hb6
  have y1 : w1.cell? ⟨b2, n, none⟩ = some (.bool u0) := by
    rw [cell_of_row w1 b2 n _ _ (0, 0) k1]
    simpa using y0
  have f1 : w1.frozen? ⟨b2, n, none⟩ = false := frozen_of_row w1 b2 n _ _ k1
  have k3 : (w1.setCell ⟨b2, n, none⟩ (.bool on)).heap[b2]? = some (.cells ds.toArray 31 (0, 0)) := by rw [← HS.out]; exact set_blk k1 _
  have k4 : (w1.setCell ⟨b2, n, none⟩ (.bool on)).heap[b6]? = some (.cells (b64 0).toArray 31 (0, 0)) := by rw [Below.heap_setCell _ _ _ _ (fun h => hne h.symm)]; exact k2
  have B2 : Below w.heap.size w (w1.setCell ⟨b2, n, none⟩ (.bool on)) := B1.setCell (p := ⟨b2, n, none⟩) m1 _
  go_upto_region 5 with fail
  clear k1 k2 y1 f1 B1 HS
  generalize w1.setCell ⟨b2, n, none⟩ (.bool on) = w2 at k3 k4 B2 ⊢
  have r3 := range_blk k3
  have t4 := there_blk k4 hz0
  have hsz2 : (Tryd.prog.info? 31).map (·.size) = some ds.toArray.size := by simpa using hsz
  have t4' : w2.there b6 0 ds.toArray.size := by simpa [hl2] using t4
  have B3 : Below w.heap.size w (w2.setCells b6 0 ds) := below_setCells m2 ds 0 w2 B2
  have r5 : (w2.setCells b6 0 ds).rangeAt b6 0 ds := World.rangeAt_setCells_same _ _ _ _ (by rw [hl2]; exact t4)
  have hld := run_loadVar_mid (P := Tryd.prog) _ _ _ _ ds _ r5 Tryd.underlying31 rfl hsz
  clear k3 k4 B2 l1 l2 m1 m2 hl2 hz0 hl
  go_wp2_with (first | (refine wpList_load_mid rfl 31 _ rfl b2 0 rfl ds _ r3 Tryd.underlying31 rfl hsz ?_) | (refine wpList_store_mid rfl 31 _ _ rfl b6 0 ds.toArray rfl rfl t4' hsz2 (all_oneCell_toArray hone) ?_))
  refine bodyPost_ret (v := .tuple #[.agg ds.toArray, .int .i64 0]) ?_ rfl ⟨rfl, B3⟩
  rw [results_cell_tmp rfl]
  simp [asAddr, Result.andThen, hld]
set_option maxRecDepth 100000 in
theorem refWith_no (x : Nat) (n : Int) (on : Bool) (w : World) (hn : ¬ (0 ≤ n ∧ n < 64)) :
    Calls Tryd.prog 20 #[av x, .int .i64 n, .bool on] w fun e w' => e = .returned (.tuple #[av 0, .int .i64 1]) ∧ Below w.heap.size w w' := by
  have hf := fun wx => fits_c n wx false ⟨fun h => (by cases h), fun h => absurd h hn⟩
  have hsz := sizeSet9 0
  have hone := b64_one 0
  have hz0 := b64_len 0
  have hbt : Tryd.prog.built 31 [] = some (b64 0).toArray := by kernel_rfl
  unfold av
  generalize b64 x = cs at *
  go_enter Tryd.func20, Tryd.ntmps20
  go_wp2_with fail
  refine (hf _).mono ?_
  rintro e w0 ⟨rfl, rfl⟩
  clear hf
  obtain ⟨w1, hw1⟩ : ∃ w1, w1 = (w.alloc (.cells cs.toArray 31)).alloc (.cells (b64 0).toArray 31) := ⟨_, rfl⟩
  obtain ⟨b2, hb2⟩ : ∃ b, b = w.heap.size := ⟨_, rfl⟩
  obtain ⟨b6, hb6⟩ : ∃ b, b = w.heap.size + 1 := ⟨_, rfl⟩
  obtain ⟨k1, k2, B1, hne, l1, l2, m1, m2⟩ := two9 hw1 hb2 hb6
  rw [turn9 (w := w.alloc (.cells cs.toArray 31)) (w1 := w1) ?hW]
  case hW => rw [hw1]; kernel_rfl
  rw [← hb6, ← hb2]
  clear hw1 hb2 hb6
  have t4 := there_blk k2 hz0
  obtain ⟨zs, hzs⟩ : ∃ zs, zs = b64 0 := ⟨_, rfl⟩
  have HZ : Hid (zs = b64 0) := hzs
  rw [← hzs] at hbt hsz hone hz0
  clear hzs
  have hsz2 : (Tryd.prog.info? 31).map (·.size) = some zs.toArray.size := by simpa using hsz
  have t4' : w1.there b6 0 zs.toArray.size := by simpa [hz0] using t4
  have B3 : Below w.heap.size w (w1.setCells b6 0 zs) := below_setCells m2 zs 0 w1 B1
  have r5 : (w1.setCells b6 0 zs).rangeAt b6 0 zs := World.rangeAt_setCells_same _ _ _ _ (by rw [hz0]; exact t4)
  have hld := run_loadVar_mid (P := Tryd.prog) _ _ _ _ zs _ r5 Tryd.underlying31 rfl hsz
  clear k1 k2 l1 l2 m1 m2 hz0
  go_upto_region 3 with fail
  refine wp_region_lit ?_
  refine wpList_buildTo rfl 31 #[] rfl (some 13) rfl zs.toArray (by simpa using hbt) ?_
  refine wpList_store_mid rfl 31 _ _ rfl b6 0 zs.toArray rfl rfl t4' hsz2 (all_oneCell_toArray hone) ?_
  simp only [Act.put, List.setIfInBounds_toArray, List.set_cons_zero, List.set_cons_succ]
  go_wp2
  refine bodyPost_ret (v := .tuple #[.agg zs.toArray, .int .i64 1]) ?_ rfl ⟨by rw [HZ.out], B3⟩
  rw [results_cell_tmp rfl]
  simp [asAddr, Result.andThen, hld]
end Go.Proofs.YtmnmjmhmdnjdlaaDoor
