/- The document's own Purge. -/
import Derived.Test.YtmpkhbblakfglaaDoorFAdd9
import Derived.Deep.CutBlock
import Derived.Deep.DeepCutAuto
namespace Go.Proofs.YtmpkhbblakfglaaDoor
open Go.ChangeShapes Go.WideShapes Go.ChangeAt Go.RowKit Go.Maps
set_option linter.unusedVariables false
set_option linter.unusedSimpArgs false

set_option maxRecDepth 100000 in
set_option maxHeartbeats 2000000 in
theorem refGet_no (w : World) (o : Nat → Nat) (L p m : Nat) (NL : List ByteArray) (xs : List Nat) (s : ByteArray) (h : RX w o L p m NL xs) (hm : m ≤ 16) (hs : s ∉ NL) :
    Calls Tryd.prog 18 #[.pointer (some ⟨p, 0, none⟩), .string s] w fun e w' => e = .returned (.tuple #[av 0, .int .i64 93]) ∧ Below w.heap.size w w' := by
  obtain ⟨w1, hw1⟩ : ∃ w1, w1 = w.alloc (.cells (b64 0).toArray 57) := ⟨_, rfl⟩
  obtain ⟨b2, hb2⟩ : ∃ b, b = w.heap.size := ⟨_, rfl⟩
  have k2 : w1.heap[b2]? = some (.cells (b64 0).toArray 57 (0, 0)) := by subst hw1 hb2; exact heap_alloc_new w _
  have B1 : Below w.heap.size w w1 := by rw [hw1]; exact bal (b0 w) _
  have HW : Hid (w1 = w.alloc (.cells (b64 0).toArray 57) ∧ b2 = w.heap.size) := ⟨hw1, hb2⟩
  have hbt : Tryd.prog.built 57 [] = some (b64 0).toArray := built9
  have hsz := sizeSet9 0
  have hone := b64_one 0
  have hz0 := b64_len 0
  obtain ⟨a, b, ao, ca, so, cs, hR⟩ := h.step (Step.ofBelow (I := fun _ => False) o B1) (fun _ _ _ => id)
  have t4 := there_blk k2 hz0
  have m2 : w.heap.size ≤ b2 := by omega
  clear hw1 hb2
  go_enter Tryd.func18, Tryd.ntmps18
  go_upto_region 1 with fail
  rw [turn9 (w := w) (w1 := w1) ?hW]
  case hW => rw [HW.out.1]; kernel_rfl
  rw [← HW.out.2]
  clear HW
  go_wp2_with fail
  refine (place_c w1 o L p a b ao ca so cs m NL xs s hR (by omega)).mono ?_
  rintro e w2 ⟨r, rfl, rfl, hr⟩
  rcases hr with ⟨rfl, _⟩ | ⟨k, rfl, hk, he⟩
  rotate_left
  · refine absurd ?_ hs
    rw [← he]
    have hl := hR.ln
    simp [List.getD, List.getElem?_eq_getElem (show k < NL.length by omega)]
  obtain ⟨zs, hzs⟩ : ∃ zs, zs = b64 0 := ⟨_, rfl⟩
  have HZ : Hid (zs = b64 0) := hzs
  rw [← hzs] at hbt hsz hone hz0
  clear hzs
  have hsz2 : (Tryd.prog.info? 57).map (·.size) = some zs.toArray.size := by simpa using hsz
  have t4' : w2.there b2 0 zs.toArray.size := by simpa [hz0] using t4
  have B3 : Below w.heap.size w (w2.setCells b2 0 zs) := below_setCells m2 zs 0 w2 B1
  have r5 : (w2.setCells b2 0 zs).rangeAt b2 0 zs := World.rangeAt_setCells_same _ _ _ _ (by rw [hz0]; exact t4)
  have hld := run_loadVar_mid (P := Tryd.prog) _ _ _ _ zs _ r5 Tryd.underlying57 rfl hsz
  clear hR h t4 k2 B1 hs hz0
  go_upto_region 3 with fail
  refine wp_region_lit ?_
  refine wpList_buildTo rfl 57 #[] rfl (some 12) rfl zs.toArray (by simpa using hbt) ?_
  refine wpList_store_mid rfl 57 _ _ rfl b2 0 zs.toArray rfl rfl t4' hsz2 (all_oneCell_toArray hone) ?_
  simp only [Act.put, List.setIfInBounds_toArray, List.set_cons_zero, List.set_cons_succ]
  go_wp2
  refine bodyPost_ret (v := .tuple #[.agg zs.toArray, .int .i64 93]) ?_ rfl ⟨by rw [HZ.out]; rfl, B3⟩
  rw [results_cell_tmp rfl]
  simp [asAddr, Result.andThen, hld]
set_option maxRecDepth 100000 in
set_option maxHeartbeats 2000000 in
theorem refGet_ok (w : World) (o : Nat → Nat) (L p m : Nat) (NL : List ByteArray) (xs : List Nat) (s : ByteArray) (h : RX w o L p m NL xs) (hm : m ≤ 16) (hs : s ∈ NL) :
    Calls Tryd.prog 18 #[.pointer (some ⟨p, 0, none⟩), .string s] w fun e w' => ∃ k, k < m ∧ NL.getD k ⟨#[]⟩ = s ∧ e = .returned (.tuple #[av (xs.getD k 0), .int .i64 0]) ∧ Below w.heap.size w w' := by
  obtain ⟨w1, hw1⟩ : ∃ w1, w1 = w.alloc (.cells (b64 0).toArray 57) := ⟨_, rfl⟩
  obtain ⟨b2, hb2⟩ : ∃ b, b = w.heap.size := ⟨_, rfl⟩
  have k2 : w1.heap[b2]? = some (.cells (b64 0).toArray 57 (0, 0)) := by subst hw1 hb2; exact heap_alloc_new w _
  have B1 : Below w.heap.size w w1 := by rw [hw1]; exact bal (b0 w) _
  have HW : Hid (w1 = w.alloc (.cells (b64 0).toArray 57) ∧ b2 = w.heap.size) := ⟨hw1, hb2⟩
  obtain ⟨a, b, ao, ca, so, cs, hR⟩ := h.step (Step.ofBelow (I := fun _ => False) o B1) (fun _ _ _ => id)
  have t4 := there_blk k2 (b64_len 0)
  have m2 : w.heap.size ≤ b2 := by omega
  clear hw1 hb2
  go_enter Tryd.func18, Tryd.ntmps18
  go_upto_region 1 with fail
  rw [turn9 (w := w) (w1 := w1) ?hW]
  case hW => rw [HW.out.1]; kernel_rfl
  rw [← HW.out.2]
  clear HW
  go_wp2_with fail
  refine (place_c w1 o L p a b ao ca so cs m NL xs s hR (by omega)).mono ?_
  rintro e w2 ⟨r, rfl, rfl, hr⟩
  rcases hr with ⟨rfl, hno⟩ | ⟨k, rfl, hk, he⟩
  · exact absurd hs hno
  obtain ⟨c0, c1, _⟩ := hR.blk.cells2
  obtain ⟨g, rfl, rg, _, _, _, hmcs⟩ := hR.set k hk
  have hcap2 := hR.sr.cap
  have HE : Hid (k < m ∧ NL.getD k ⟨#[]⟩ = s) := ⟨hk, he⟩
  obtain ⟨x, hx⟩ : ∃ x, x = xs.getD k 0 := ⟨_, rfl⟩
  have HX : Hid (x = xs.getD k 0) := hx
  rw [← hx] at rg
  clear hx
  have hkI : (k : Int) < (m : Int) := by omega
  have hk0 : ¬ (k : Int) < 0 := by omega
  have B3 : Below w.heap.size w (w2.setCells b2 0 (b64 x)) := below_setCells m2 (b64 x) 0 w2 B1
  have r5 : (w2.setCells b2 0 (b64 x)).rangeAt b2 0 (b64 x) := World.rangeAt_setCells_same _ _ _ _ (by rw [b64_len]; exact t4)
  have hld := run_loadVar_mid (P := Tryd.prog) _ _ _ _ (b64 x) _ r5 Tryd.underlying57 rfl (sizeSet9 x)
  have hcm : cs ≤ 9223372036854775807 := by have := hcap2.2.2; unfold maxLen at this; omega
  have HK2 : Hid (w2.heap[b2]? = some (.cells (b64 0).toArray 57 (0, 0))) := k2
  have HRG : Hid (w2.rangeAt g (k * 64) (b64 x)) := rg
  have HLD : Hid (Below w.heap.size w (w2.setCells b2 0 (b64 x)) ∧ (w2.setCells b2 0 (b64 x)).rangeAt b2 0 (b64 x)) := ⟨B3, r5⟩
  clear hR h t4 B1 hs he hk hcap2 k2 rg hld r5 B3 m2
  go_upto_region 4 with fail
  have k2 := HK2.out
  have rg := HRG.out
  go_wp2_with (first | (refine wpList_load_mid rfl 57 _ rfl g (k * 64) rfl (b64 x) _ rg Tryd.underlying57 rfl (sizeSet9 _) ?_) | (refine wpList_store_mid rfl 57 _ _ rfl b2 0 (b64 x).toArray rfl rfl (there9 k2 x) (size9 _) (all_oneCell_toArray (b64_one _)) ?_))
  refine bodyPost_ret (v := .tuple #[.agg (b64 x).toArray, .int .i64 0]) ?_ rfl ⟨k, HE.out.1, HE.out.2, by rw [← HX.out]; rfl, HLD.out.1⟩
  have hld := run_loadVar_mid (P := Tryd.prog) _ _ _ _ (b64 x) _ HLD.out.2 Tryd.underlying57 rfl (sizeSet9 x)
  rw [results_cell_tmp rfl]
  simp [asAddr, Result.andThen, hld]
/-- Cells laid one by one. -/
def setAll : List Value → Nat → List Value → List Value
  | xs, _, [] => xs
  | xs, k, v :: r => setAll (xs.set k v) (k + 1) r
theorem setAll_eq : ∀ (cs pre old post : List Value), old.length = cs.length → setAll (pre ++ old ++ post) pre.length cs = pre ++ cs ++ post
  | [], pre, old, post, h => by
    have : old = [] := List.eq_nil_of_length_eq_zero h
    subst this
    rfl
  | v :: r, pre, old, post, h => by
    match old, h with
    | u :: old, h =>
      have e : (pre ++ u :: old ++ post).set pre.length v = (pre ++ [v]) ++ old ++ post := by simp [List.set_append]
      rw [setAll, e]
      have := setAll_eq r (pre ++ [v]) old post (by simpa using h)
      simpa using this
theorem Row.storeAll {o : Nat → Nat} {i : Nat} {e : TypeId} {size : Nat} {g n cap : Nat} : ∀ (cs : List Value) (k : Nat) (w : World) (xs : List Value), Row w o i e size (.slice (some ⟨g, 0, none⟩) n cap) n xs → Row (w.setCells g k cs) o i e size (.slice (some ⟨g, 0, none⟩) n cap) n (setAll xs k cs)
  | [], _, _, _, h => h
  | v :: r, k, w, xs, h => by
    rw [World.setCells, setAll]
    exact Row.storeAll r (k + 1) _ _ (h.store k v)
theorem setsL_lay (xs : List Nat) (k x : Nat) (hk : k < xs.length) : setAll (setsL xs) (k * 64) (b64 x) = setsL (xs.set k x) := by
  have e : setsL xs = setsL (xs.take k) ++ b64 xs[k] ++ setsL (xs.drop (k + 1)) := by
    have := List.take_append_drop k xs
    rw [List.drop_eq_getElem_cons hk] at this
    have t := setsL_app (xs.take k) (xs[k] :: xs.drop (k + 1))
    rw [this] at t
    rw [List.append_assoc]
    exact t
  have hl : (setsL (xs.take k)).length = k * 64 := by rw [setsL_len, List.length_take, Nat.min_eq_left (by omega)]
  have h := setAll_eq (b64 x) (setsL (xs.take k)) (b64 xs[k]) (setsL (xs.drop (k + 1))) (by rw [b64_len, b64_len])
  rw [hl, ← e] at h
  rw [h, List.set_eq_take_append_cons_drop, if_pos hk, setsL_app, List.append_assoc]
  rfl
theorem setCells_step9 (I : Nat → Prop) (o : Nat → Nat) (b : Nat) (hb : I (o b)) : ∀ (cs : List Value) (k : Nat) (a w : World) (o0' : Nat → Nat), Step I a o0' w o → Step I a o0' (w.setCells b k cs) o
  | [], _, _, _, _, s => s
  | v :: r, k, a, w, o0', s => by
    rw [World.setCells]
    exact setCells_step9 I o b hb r (k + 1) a _ o0' (s.setCell ⟨b, k, none⟩ v hb)
theorem keep_below9 {w w' : World} (b : Below w.heap.size w w') {p : Addr} {v : Value} (h : w.cell? p = some v) : w'.cell? p = some v := (b.cell (World.block_lt_of_cell? w p h)).trans h
theorem refLay_no (w : World) (o : Nat → Nat) (L p m : Nat) (NL : List ByteArray) (xs : List Nat) (s : ByteArray) (x : Nat) (h : RX w o L p m NL xs) (hm : m ≤ 16) (hs : s ∉ NL) :
    Calls Tryd.prog 22 #[.pointer (some ⟨p, 0, none⟩), .string s, av x] w fun e w' => e = .returned (.int .i64 93) ∧ Below w.heap.size w w' := by
  have B1 : Below w.heap.size w (w.alloc (.cells (b64 x).toArray 57)) := bal (b0 w) _
  obtain ⟨a, b, ao, ca, so, cs, hR⟩ := h.step (Step.ofBelow (I := fun _ => False) o B1) (fun _ _ _ => id)
  unfold av
  go_enter Tryd.func22, Tryd.ntmps22
  go_wp2_with fail
  refine (place_c _ o L p a b ao ca so cs m NL xs s hR (by omega)).mono ?_
  rintro e w2 ⟨r, rfl, rfl, hr⟩
  rcases hr with ⟨rfl, _⟩ | ⟨k, rfl, hk, he⟩
  · clear hR h
    go_wp2
    go_ret
    exact ⟨rfl, B1⟩
  · refine absurd ?_ hs
    rw [← he]
    have hl := hR.ln
    simp [List.getD, List.getElem?_eq_getElem (show k < NL.length by omega)]
def LayO (w : World) (o : Nat → Nat) (L p m : Nat) (NL : List ByteArray) (xs : List Nat) (s : ByteArray) (x : Nat) (e : Ending) (w' : World) : Prop := ∃ k, k < m ∧ NL.getD k ⟨#[]⟩ = s ∧ e = .returned (.int .i64 0) ∧ RX w' o L p m NL (xs.set k x) ∧ Step (LL L) w o w' o
set_option maxRecDepth 100000 in
set_option maxHeartbeats 2000000 in
theorem refLay_ok (w : World) (o : Nat → Nat) (L p m : Nat) (NL : List ByteArray) (xs : List Nat) (s : ByteArray) (x : Nat) (h : RX w o L p m NL xs) (hm : m ≤ 16) (hs : s ∈ NL) :
    Calls Tryd.prog 22 #[.pointer (some ⟨p, 0, none⟩), .string s, av x] w fun e w' => LayO w o L p m NL xs s x e w' := by
  obtain ⟨w1, hw1⟩ : ∃ w1, w1 = w.alloc (.cells (b64 x).toArray 57) := ⟨_, rfl⟩
  obtain ⟨b2, hb2⟩ : ∃ b, b = w.heap.size := ⟨_, rfl⟩
  have k2 : w1.heap[b2]? = some (.cells (b64 x).toArray 57 (0, 0)) := by subst hw1 hb2; exact heap_alloc_new w _
  have B1 : Below w.heap.size w w1 := by rw [hw1]; exact bal (b0 w) _
  have HW : Hid (w1 = w.alloc (.cells (b64 x).toArray 57) ∧ b2 = w.heap.size) := ⟨hw1, hb2⟩
  have st1 : Step (LL L) w o w1 o := Step.ofBelow o B1
  have hRX := h
  obtain ⟨a0, b0', ao0, ca0, so0, cs0, hR0⟩ := hRX
  have hpl : p < w.heap.size := hR0.blk.lt
  have hgl : ∀ g, so0 = some ⟨g, 0, none⟩ → g < w.heap.size := fun g e => hR0.sr.lt (k := g) (by rw [e]; rfl)
  have hR := hR0.step (Step.ofBelow (I := fun _ => False) o B1) (fun _ _ _ => id)
  clear hw1 hb2 B1 h hR0
  unfold av
  go_enter Tryd.func22, Tryd.ntmps22
  go_upto_region 1 with fail
  rw [← HW.out.1, ← HW.out.2]
  go_wp2_with fail
  refine (place_c w1 o L p a0 b0' ao0 ca0 so0 cs0 m NL xs s hR (by omega)).mono ?_
  rintro e w2 ⟨r, rfl, rfl, hr⟩
  rcases hr with ⟨rfl, hno⟩ | ⟨k, rfl, hk, he⟩
  · exact absurd hs hno
  obtain ⟨c0, c1, _⟩ := hR.blk.cells2
  obtain ⟨g, rfl, rg, fg, _, og, hmcs⟩ := hR.set k hk
  have hgl' := hgl g rfl
  have hb2 := HW.out.2
  have ngb : g ≠ b2 := by omega
  have npb : p ≠ b2 := by omega
  have qa := hR.la
  have qb := hR.lb
  have npg : p ≠ g := fun e => by have := hR.blk.2; rw [e, og] at this; omega
  have hl := hR.lx
  have tg : w2.there g (k * 64) 64 := fun j hj => ⟨by rw [rg j _ (b64_get _ hj)]; rfl, fg _⟩
  have rb : w2.rangeAt b2 0 (b64 x) := range_blk k2
  have hcap2 := hR.sr.cap
  have hcm : cs0 ≤ 9223372036854775807 := by have := hcap2.2.2; unfold maxLen at this; omega
  have N5 := (hR.sr.step ((Step.refl (fun _ => False) w2 o).drew) id).storeAll (b64 x) (k * 64)
  rw [setsL_lay xs k x (by omega)] at N5
  have sA : Step (fun q => q = b0') w2 o (w2.drew.setCells g (k * 64) (b64 x)) o := setCells_step9 (fun q => q = b0') o g og (b64 x) (k * 64) w2 w2.drew o ((Step.refl _ w2 o).drew)
  have HR : Hid (LayO w o L p m NL xs s x (.returned (.int .i64 0)) (w2.drew.setCells g (k * 64) (b64 x))) := ⟨k, hk, he, rfl, ⟨a0, b0', ao0, ca0, _, cs0, hR.blk.step sA (by omega), hR.nr.step sA (by omega), N5, qa, qb, hR.ln, by rw [List.length_set]; exact hl⟩, st1.trans (sA.mono fun q hq => by unfold LL; omega)⟩
  have cz : (w2.drew.setCells g (k * 64) (b64 x)).cell? ⟨p, 1, none⟩ = some (.slice (some ⟨g, 0, none⟩) m cs0) := (World.cell?_of_block (w := w2) (a := ⟨p, 1, none⟩) (by rw [setCells_other npg]; rfl)).trans c1
  have rz : (w2.drew.setCells g (k * 64) (b64 x)).rangeAt b2 0 (b64 x) := World.rangeAt_setCells_apart ((World.rangeAt_drew _ _ _ _).2 rb) g (k * 64) (b64 x) (.inl (fun e => ngb e.symm))
  have tz : (w2.drew.setCells g (k * 64) (b64 x)).there g (k * 64) 64 := World.there_setCells ((World.there_drew _ _ _ _).2 tg) g (k * 64) (b64 x)
  have hkI : (k : Int) < (m : Int) := by omega
  have hk0 : ¬ (k : Int) < 0 := by omega
  have HA : Hid ((w2.drew.cell? ⟨p, 1, none⟩ = some (.slice (some ⟨g, 0, none⟩) m cs0) ∧ w2.drew.rangeAt b2 0 (b64 x) ∧ w2.drew.there g (k * 64) 64) ∧ ((w2.drew.setCells g (k * 64) (b64 x)).cell? ⟨p, 1, none⟩ = some (.slice (some ⟨g, 0, none⟩) m cs0) ∧ (w2.drew.setCells g (k * 64) (b64 x)).rangeAt b2 0 (b64 x) ∧ (w2.drew.setCells g (k * 64) (b64 x)).there g (k * 64) 64)) := ⟨⟨c1, (World.rangeAt_drew _ _ _ _).2 rb, (World.there_drew _ _ _ _).2 tg⟩, cz, rz, tz⟩
  clear hR N5 sA st1 qa qb fg rg hcap2 HW hgl hs he k2 cz rz tz rb tg hb2
  go_upto_region 4 with fail
  refine wp_region_noPanic ?_
  refine wp_region_held_drew (S := fun wx => wx.cell? ⟨p, 1, none⟩ = some (.slice (some ⟨g, 0, none⟩) m cs0) ∧ wx.rangeAt b2 0 (b64 x) ∧ wx.there g (k * 64) 64) (by kernel_rfl) HA.out.1 (fun hHeld => ?_)
  refine wpAnyH_take (i := 0) (v := ?v1) rfl (by kernel_rfl) (by kernel_rfl) (by kernel_rfl) (fun _ _ _ h => h) (Or.inl ⟨by rfl, ?hy1⟩) (by assumption) ?rest1
  case hy1 => (intro w hSw; (try dsimp only at hSw); go_simp; all_goals (with_reducible rfl))
  simp only [Act.put, List.getElem_toArray, List.getElem_cons_zero, List.getElem_cons_succ, List.setIfInBounds_toArray, List.set_cons_zero, List.set_cons_succ]
  refine wpAnyH_take (i := 1) (v := ?v2) rfl (by kernel_rfl) (by kernel_rfl) (by kernel_rfl) (fun _ _ _ h => h) (Or.inl ⟨by rfl, ?hy2⟩) (by assumption) ?rest2
  case hy2 => (intro w hSw; (try dsimp only at hSw); go_simp; all_goals (with_reducible rfl))
  simp only [Act.put, List.getElem_toArray, List.getElem_cons_zero, List.getElem_cons_succ, List.setIfInBounds_toArray, List.set_cons_zero, List.set_cons_succ]
  refine wpAnyH_take (i := 2) (v := ?v3) rfl (by kernel_rfl) (by kernel_rfl) (by kernel_rfl) (fun _ _ _ h => h) (Or.inl ⟨by rfl, ?hy3⟩) (by assumption) ?rest3
  case hy3 => (intro w hSw; (try dsimp only at hSw); go_simp; all_goals (with_reducible rfl))
  simp only [Act.put, List.getElem_toArray, List.getElem_cons_zero, List.getElem_cons_succ, List.setIfInBounds_toArray, List.set_cons_zero, List.set_cons_succ]
  refine wpAnyH_take (i := 3) (v := ?v4) rfl (by kernel_rfl) (by kernel_rfl) (by kernel_rfl) (fun _ _ _ h => h) (Or.inl ⟨by rfl, ?hy4⟩) (by assumption) ?rest4
  case hy4 => (intro w hSw; (try dsimp only at hSw); have c3 := hSw.1; go_simp; all_goals (with_reducible rfl))
  simp only [Act.put, List.getElem_toArray, List.getElem_cons_zero, List.getElem_cons_succ, List.setIfInBounds_toArray, List.set_cons_zero, List.set_cons_succ]
  refine wpAnyH_take (i := 4) (v := ?v5) rfl (by kernel_rfl) (by kernel_rfl) (by kernel_rfl) (fun _ _ _ h => h) (Or.inl ⟨by rfl, ?hy5⟩) (by assumption) ?rest5
  case hy5 => (intro w hSw; (try dsimp only at hSw); go_simp; all_goals (with_reducible rfl))
  simp only [Act.put, List.getElem_toArray, List.getElem_cons_zero, List.getElem_cons_succ, List.setIfInBounds_toArray, List.set_cons_zero, List.set_cons_succ]
  refine wpAnyH_take (i := 5) (v := .agg (b64 x).toArray) rfl (by kernel_rfl) (by kernel_rfl) (by kernel_rfl) (fun _ _ _ h => h) (yieldsIf_load_mid (by rfl) 57 _ rfl b2 (0) rfl (b64 x) _ (fun w hSw => hSw.2.1) Tryd.underlying57 rfl (sizeSet9 x)) (by assumption) ?_
  simp only [Act.put, List.getElem_toArray, List.getElem_cons_zero, List.getElem_cons_succ, List.setIfInBounds_toArray, List.set_cons_zero, List.set_cons_succ]
  refine wpAnyH_take (i := 6) (v := ?v6) rfl (by kernel_rfl) (by kernel_rfl) (by kernel_rfl) (fun _ _ _ h => h) (Or.inl ⟨by rfl, ?hy6⟩) (by assumption) ?rest6
  case hy6 => (intro w hSw; (try dsimp only at hSw); go_simp; all_goals (with_reducible rfl))
  simp only [Act.put, List.getElem_toArray, List.getElem_cons_zero, List.getElem_cons_succ, List.setIfInBounds_toArray, List.set_cons_zero, List.set_cons_succ]
  refine wpAnyH_ready (rs := [7]) (by kernel_rfl) (by simp) ?_
  refine AllReadyH.cons rfl (fun K hK => ?_) AllReadyH.nil
  rw [if_pos (by rfl)]
  refine wp_store_mid _ _ _ rfl g (k * 64) (b64 x).toArray rfl rfl (by simpa [b64_len] using hHeld.2.2) (size9 _) (all_oneCell_toArray (b64_one _)) ?_
  refine hK.out _ _ (HA.out.2) (fun hHeld => ?_)
  clear hK K
  simp only [Act.put, List.getElem_toArray, List.getElem_cons_zero, List.getElem_cons_succ, List.setIfInBounds_toArray, List.set_cons_zero, List.set_cons_succ]
  refine wpAnyH_done (by kernel_rfl) ?_ _
  refine NoPanic.normal ?_
  go_wp2
  go_ret
  exact HR.out
end Go.Proofs.YtmpkhbblakfglaaDoor
namespace Go.Proofs.YtmpkhbblakfglaaDoor
open Go.ChangeShapes Go.WideShapes Go.ChangeAt Go.RowKit Go.Maps
set_option linter.unusedVariables false
set_option linter.unusedSimpArgs false

theorem refPurge_no (w : World) (p : Nat) (n : Int) (hn : ¬ (0 ≤ n ∧ n < 64)) :
    Calls Tryd.prog 24 #[.pointer (some ⟨p, 0, none⟩), .int .i64 n] w fun e w' => e = .returned (.int .i64 1) ∧ w' = w := by
  have hf := fun wx => fits_c n wx false ⟨fun h => (by cases h), fun h => absurd h hn⟩
  go_enter Tryd.func24, Tryd.ntmps24
  go_wp2_with fail
  refine (hf _).mono ?_
  rintro e w1 ⟨rfl, rfl⟩
  go_wp2
  go_ret
  exact ⟨rfl, rfl⟩
/-- The first k sets without n. -/
def pu (xs : List Nat) (n k : Nat) : List Nat := (xs.take k).map (fun x => mns x (bt n)) ++ xs.drop k
theorem pu_zero (xs : List Nat) (n : Nat) : pu xs n 0 = xs := by simp [pu]
theorem pu_all (xs : List Nat) (n : Nat) : pu xs n xs.length = xs.map (fun x => mns x (bt n)) := by simp [pu]
theorem pu_len (xs : List Nat) (n k : Nat) (h : k ≤ xs.length) : (pu xs n k).length = xs.length := by simp [pu]; omega
theorem pu_get (xs : List Nat) (n k : Nat) (h : k < xs.length) : (pu xs n k).getD k 0 = xs.getD k 0 := by
  unfold pu
  rw [List.getD_eq_getElem?_getD, List.getElem?_append_right (by simp; omega), List.getElem?_drop, List.getD_eq_getElem?_getD]
  simp [Nat.min_eq_left (Nat.le_of_lt h)]
theorem pu_next (xs : List Nat) (n k : Nat) (h : k < xs.length) : (pu xs n k).set k (mns (xs.getD k 0) (bt n)) = pu xs n (k + 1) := by
  unfold pu
  have hl : ((xs.take k).map (fun x => mns x (bt n))).length = k := by simp; omega
  rw [List.set_append_right _ _ (by omega), hl, Nat.sub_self, List.drop_eq_getElem_cons h, List.set_cons_zero, List.take_succ_eq_append_getElem h, List.map_append]
  simp [List.getD, List.getElem?_eq_getElem h]
set_option maxRecDepth 100000 in
set_option maxHeartbeats 2000000 in
theorem refPurge_ok (w : World) (o : Nat → Nat) (L p m n : Nat) (NL : List ByteArray) (xs : List Nat) (h : RX w o L p m NL xs) (hm : m ≤ 16) (hn : n < 64) (hx : ∀ k, k < m → xs.getD k 0 < top64) :
    Calls Tryd.prog 24 #[.pointer (some ⟨p, 0, none⟩), .int .i64 (n : Nat)] w fun e w' => e = .returned (.int .i64 0) ∧ RX w' o L p m NL (xs.map (fun x => mns x (bt n))) ∧ Step (LL L) w o w' o := by
  have hf := fun wx => fits_c (n : Int) wx true ⟨fun _ => ⟨by omega, by omega⟩, fun _ => rfl⟩
  obtain ⟨a, b, ao, ca, so, cs, hR⟩ := h
  have hlx := hR.lx
  have qb := hR.lb
  have qa := hR.la
  have hcap2 := hR.sr.cap
  have hcm : cs ≤ 9223372036854775807 := by have := hcap2.2.2; unfold maxLen at this; omega
  have hcs : m ≤ cs := hcap2.2.1
  have hnI : (n : Int) < 64 := by omega
  clear hcap2
  go_enter Tryd.func24, Tryd.ntmps24
  go_wp2_with fail
  refine (hf _).mono ?_
  rintro e w1 ⟨rfl, rfl⟩
  clear hf
  go_wp2_with fail
  go_loopw [6] (fun v wr => ∃ k : Nat, k ≤ m ∧ v = .int .i64 (k : Nat) ∧ RF wr o L p a b ao ca so cs m NL (pu xs n k) ∧ Step (LL L) w1 o wr o) (fun v _ => m - (intOf v).toNat)
  case atStart => exact ⟨0, by omega, by go_num, by rw [pu_zero]; exact hR, Step.refl _ _ _⟩
  case round =>
    clear hR
    obtain ⟨k, hk, rfl, hR, st⟩ := hrel
    obtain ⟨c0, c1, _⟩ := hR.blk.cells2
    by_cases hlt : k < m
    · have hkI : (k : Int) < (m : Int) := by omega
      obtain ⟨g, rfl, rg, fg, _, og, _⟩ := hR.set k hlt
      have cn := rg n _ (b64_get _ hn)
      have fn := fg (k * 64 + n)
      have hxk := hx k hlt
      have N5 := hR.sr.store (k * 64 + n) (.bool false)
      rw [setsL_set (pu xs n k) k n (by rw [pu_len xs n k (by omega)]; omega) hn (by rw [pu_get xs n k (by omega)]; exact hxk), pu_get xs n k (by omega), pu_next xs n k (by omega)] at N5
      have sA := setStep (fun q => q = b) wr o ⟨g, k * 64 + n, none⟩ (.bool false) og
      have R5 : RF (wr.setCell ⟨g, k * 64 + n, none⟩ (.bool false)) o L p a b ao ca (some ⟨g, 0, none⟩) cs m NL (pu xs n (k + 1)) := ⟨hR.blk.step sA (by omega), hR.nr.step sA (by omega), N5, qa, qb, hR.ln, by rw [pu_len xs n (k + 1) (by omega)]; exact hlx⟩
      have st5 := st.trans (sA.mono fun q hq => (by unfold LL; omega : LL L q))
      generalize ((pu xs n k).getD k 0).testBit n = ub at cn
      clear hR N5 sA rg fg st og
      go_wp2
      go_roundw
      case rel => (try ((repeat apply Exists.intro); refine ⟨?_, rfl⟩)); exact ⟨k + 1, by omega, by go_num, R5, st5⟩
      case measure => simp [intOf]; omega
    · obtain rfl : k = m := by omega
      have HR : Hid (RX wr o L p k NL (xs.map (fun x => mns x (bt n))) ∧ Step (LL L) w1 o wr o) := ⟨⟨a, b, ao, ca, so, cs, by rw [← pu_all, hlx]; exact hR⟩, st⟩
      clear hR st
      go_wp2
      go_ret
      exact ⟨rfl, HR.out⟩
end Go.Proofs.YtmpkhbblakfglaaDoor
