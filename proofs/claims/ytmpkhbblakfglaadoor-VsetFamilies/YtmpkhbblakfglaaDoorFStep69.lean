/- VsetFamilies: a step that asks for all names; a step of another Kind. -/
import Derived.Test.YtmpkhbblakfglaaDoorFComb9
import Derived.Test.YtmpkhbblakfglaaDoorNamesC
namespace Go.Proofs.YtmpkhbblakfglaaDoor
open Go.ChangeShapes Go.WideShapes Go.ChangeAt Go.RowKit Go.Maps
set_option linter.unusedVariables false
set_option linter.unusedSimpArgs false

theorem FN.short {F : ByteArray → Option Nat} {m : Nat} {NL : List ByteArray} {xs : List Nat} (h : FN F m NL xs) : NL.length ≤ 16 := by rw [h.ln]; exact h.le
set_option maxRecDepth 100000 in
set_option maxHeartbeats 4000000 in
theorem step_6 (w : World) (o : Nat → Nat) (B ps : Nat) (hB : 1000 ≤ B) (h : SX B ps w o) (n : Int) (s : ByteArray) (ao : Option Addr) (len cap : Nat) (ot : Bool) :
    Calls Tryd.prog 6 #[.pointer (some ⟨ps, 0, none⟩), .agg #[.int .i64 6, .int .i64 n, .string s, .slice ao len cap, .bool ot]] w fun e w' => StO w o B (SX B ps) e w' := by
  obtain ⟨pf, px, N, ls, F, m, NL, xs, f, q⟩ := h
  have sB := newStep (fun _ => False) w o 95 (.cells #[.int .i64 6, .int .i64 n, .string s, .slice ao len cap, .bool ot] 37)
  have Q1 := q.step sB (fun _ _ => id) id
  have S1 : Step (fun k => SB B k ∨ (90 ≤ k ∧ k < 300)) w o _ _ := sB.mono (fun _ h => h.elim)
  have e3 : (w.alloc (.cells #[.int .i64 6, .int .i64 n, .string s, .slice ao len cap, .bool ot] 37)).heap[w.heap.size]? = some (.cells #[.int .i64 6, .int .i64 n, .string s, .slice ao len cap, .bool ot] 37 (0, 0)) := heap_alloc_new w _
  clear q sB
  have hle := f.le
  have HF : Hid (FN F m NL xs) := f
  clear f
  go_enter Tryd.func6, Tryd.ntmps6
  go_upto_region 1 with fail
  obtain ⟨b3, hb3⟩ : ∃ b3, b3 = w.heap.size := ⟨_, rfl⟩
  rw [← hb3] at e3 ⊢
  generalize newLab w o 95 = o1 at Q1 S1
  generalize w.alloc (.cells #[.int .i64 6, .int .i64 n, .string s, .slice ao len cap, .bool ot] 37) = w1 at Q1 S1 e3 ⊢
  clear hb3
  have d0 : w1.cell? ⟨b3, 0, none⟩ = some (.int .i64 6) := by simp [cell_of_row w1 b3 _ _ _ (0, 0) e3]
  clear e3
  go_upto_region 23 with fail
  clear d0
  obtain ⟨va, vw, als, wls, hK, hF, hR, hT, hW⟩ := Q1
  have c0 := hK.blk.cells4.1
  by_cases hN : N < 40
  · go_wp2_with fail
    refine (names_c w1 o1 (B + 1000) pf m (B + 500 + N) F hF (by omega)).mono ?_
    rintro e w2 ⟨v, NL2, o2, rfl, hNL, hNl, r2, s2⟩
    obtain rfl : NL2 = NL := hNL.uniq HF.out.nm
    have hK2 := hK.step s2 id id id (fun _ _ => ⟨id, id⟩)
    have hF2 := hF.step s2 id id
    have hR2 := hR.step s2 (fun _ _ _ => id)
    have hT2 := hT.step s2 id
    have hW2 := hW.step s2 id
    have S2 := S1.trans (s2.mono fun _ h => h.elim)
    clear c0 hK hF hR hT hW S1 s2
    obtain ⟨a, b, aa, ca, so, cs, hRF⟩ := hR2
    have c1 := hK2.blk.cells4.2.1
    have p0 := hRF.blk.cells2.1
    have ht := texts_yes w2 o2 o2 _ _ m NL2 v _ hNl (by omega) r2 hRF.nr
    obtain ⟨av', cv', rfl⟩ := r2.form
    go_wp2_with fail
    refine ht.mono ?_
    rintro e w3 ⟨rfl, m3, rfl⟩
    have sd : Step (fun _ => False) w2 o2 (w2.drewN m3) o2 := (Step.refl _ w2 o2).drewN m3
    have hK3 := hK2.step sd id id id (fun _ _ => ⟨id, id⟩)
    have r3 := r2.step sd id
    rw [← hNl] at r3
    have HQ : Hid (Fam (w2.drewN m3) o2 (B + 1000) pf m F ∧ RX (w2.drewN m3) o2 (B + 1) px m NL2 xs ∧ TzL (w2.drewN m3) o2 ∧ WdL (w2.drewN m3) o2) := ⟨hF2.step sd id id, ⟨a, b, aa, ca, so, cs, hRF.step sd (fun _ _ _ => id)⟩, hT2.step sd id, hW2.step sd id⟩
    have S3 := S2.trans (sd.mono fun _ h => h.elim)
    have hkp := keeps_new (w2.drewN m3) o2 B ps _ _ N ls va vw als wls _ NL2 hK3 hN r3 HF.out.short
    clear ht hK2 hF2 hRF hT2 hW2 S2 r2 r3 hK3 c1 p0 sd
    generalize w2.drewN m3 = w4 at HQ S3 hkp ⊢
    rw [hNl] at hkp
    go_wp2_with fail
    refine hkp.mono ?_
    rintro e w5 ⟨va5, vw5, als5, wls5, o5, rfl, k5, _, s5⟩
    have HR : Hid (StO w o B (SX B ps) (.returned (.bool true)) w5) := by
      obtain ⟨h1, h2, h3, h4⟩ := HQ.out
      refine ⟨rfl, o5, ⟨pf, px, N + 1, ls ++ [NL2], F, m, NL2, xs, HF.out, va5, vw5, als5, wls5, k5, h1.step s5 (by unfold KI; omega) (by unfold KI; omega), h2.step s5 (by unfold KI; omega), h3.step s5 (by unfold KI; omega), h4.step s5 (by unfold KI; omega)⟩, S3.trans (s5.mono fun k hk => (by unfold KI at hk; unfold SB; omega : SB B k ∨ (90 ≤ k ∧ k < 300)))⟩
    clear hkp k5 s5 S3 HQ
    go_wp2
    go_ret
    exact HR.out
  · go_wp2_with fail
    refine (names_c w1 o1 (B + 1000) pf m 96 F hF (by omega)).mono ?_
    rintro e w2 ⟨v, NL2, o2, rfl, hNL, hNl, r2, s2⟩
    obtain rfl : NL2 = NL := hNL.uniq HF.out.nm
    have hK2 := hK.step s2 id id id (fun _ _ => ⟨id, id⟩)
    have hF2 := hF.step s2 id id
    have hR2 := hR.step s2 (fun _ _ _ => id)
    have hT2 := hT.step s2 id
    have hW2 := hW.step s2 id
    have S2 := S1.trans (s2.mono fun _ h => h.elim)
    clear c0 hK hF hR hT hW S1 s2
    obtain ⟨a, b, aa, ca, so, cs, hRF⟩ := hR2
    have c1 := hK2.blk.cells4.2.1
    have p0 := hRF.blk.cells2.1
    have ht := texts_yes w2 o2 o2 _ _ m NL2 v _ hNl (by omega) r2 hRF.nr
    obtain ⟨av', cv', rfl⟩ := r2.form
    go_wp2_with fail
    refine ht.mono ?_
    rintro e w3 ⟨rfl, m3, rfl⟩
    have sd : Step (fun _ => False) w2 o2 (w2.drewN m3) o2 := (Step.refl _ w2 o2).drewN m3
    have hK3 := hK2.step sd id id id (fun _ _ => ⟨id, id⟩)
    have HR : Hid (StO w o B (SX B ps) (.returned (.bool true)) (w2.drewN m3)) := ⟨rfl, o2, ⟨pf, px, N, ls, F, m, NL2, xs, HF.out, va, vw, als, wls, hK3, hF2.step sd id id, ⟨a, b, aa, ca, so, cs, hRF.step sd (fun _ _ _ => id)⟩, hT2.step sd id, hW2.step sd id⟩, S2.trans (sd.mono fun _ h => h.elim)⟩
    have hkp := keeps_old (w2.drewN m3) o2 B ps _ _ N ls va vw als wls (.slice av' m cv') hK3 hN
    clear ht hK2 hF2 hRF hT2 hW2 S2 r2 hK3 c1 p0 sd
    generalize w2.drewN m3 = w4 at HR hkp ⊢
    go_wp2_with fail
    refine hkp.mono ?_
    rintro e w5 ⟨rfl, rfl⟩
    clear hkp
    go_wp2
    go_ret
    exact HR.out
set_option maxRecDepth 100000 in
set_option maxHeartbeats 4000000 in
theorem step_x (w : World) (o : Nat → Nat) (B ps : Nat) (h : SX B ps w o) (kd n : Int) (h1 : ¬ kd = 1) (h2 : ¬ kd = 2) (h3 : ¬ kd = 3) (h4 : ¬ kd = 4) (h5 : ¬ kd = 5) (h6 : ¬ kd = 6) (h7 : ¬ kd = 7) (s : ByteArray) (ao : Option Addr) (len cap : Nat) (ot : Bool) :
    Calls Tryd.prog 6 #[.pointer (some ⟨ps, 0, none⟩), .agg #[.int .i64 kd, .int .i64 n, .string s, .slice ao len cap, .bool ot]] w fun e w' => StO w o B (SX B ps) e w' := by
  have sB := newStep (fun _ => False) w o 95 (.cells #[.int .i64 kd, .int .i64 n, .string s, .slice ao len cap, .bool ot] 37)
  have HR : Hid (StO w o B (SX B ps) (.returned (.bool true)) (w.alloc (.cells #[.int .i64 kd, .int .i64 n, .string s, .slice ao len cap, .bool ot] 37))) := ⟨rfl, _, h.step sB (fun _ _ => id) id, sB.mono (fun _ h => h.elim)⟩
  clear h sB
  go_enter Tryd.func6, Tryd.ntmps6
  go_wp2
  go_ret
  exact HR.out
end Go.Proofs.YtmpkhbblakfglaaDoor
