/- VsetPlays: a step that asks for all numbers of a set; the list is kept. -/
import Derived.Test.YtmnmjmhmdnjdlaaDoorSame9
import Derived.Test.YtmnmjmhmdnjdlaaDoorMakeB
import Derived.Deep.RegionLaw
namespace Go.Proofs.YtmnmjmhmdnjdlaaDoor
open Go.ChangeShapes Go.WideShapes Go.ChangeAt Go.RowKit Go.Maps
set_option linter.unusedVariables false
set_option linter.unusedSimpArgs false

theorem Bk.setA {w : World} {p : Nat} {S X : Nat → Nat} {va vw : Value} (h : Bk w p S X va vw) (u : Value) : Bk (w.setCell ⟨p, 260, none⟩ u) p S X u vw := by
  have hne : ∀ j, j ≠ 260 → (w.setCell ⟨p, 260, none⟩ u).cell? ⟨p, j, none⟩ = w.cell? ⟨p, j, none⟩ := fun j hj => World.cell?_setCell_other _ _ _ _ (fun e => hj (by injection e with _ e2; exact e2.symm))
  refine ⟨fun j hj => ?_, fun j hj k v hv => ?_, World.cell?_setCell_same _ _ _ h.a, ?_, fun j => ?_⟩
  · rw [hne j (by omega)]; exact h.s j hj
  · have hk : k < 64 := by have := (List.getElem?_eq_some_iff.1 hv).1; rwa [b64_len] at this
    rw [hne _ (by omega)]; exact h.x j hj k v hv
  · rw [hne _ (by omega)]; exact h.v
  · rw [World.frozen?_setCell]; exact h.f j
theorem Bk.setV {w : World} {p : Nat} {S X : Nat → Nat} {va vw : Value} (h : Bk w p S X va vw) (u : Value) : Bk (w.setCell ⟨p, 261, none⟩ u) p S X va u := by
  have hne : ∀ j, j ≠ 261 → (w.setCell ⟨p, 261, none⟩ u).cell? ⟨p, j, none⟩ = w.cell? ⟨p, j, none⟩ := fun j hj => World.cell?_setCell_other _ _ _ _ (fun e => hj (by injection e with _ e2; exact e2.symm))
  refine ⟨fun j hj => ?_, fun j hj k v hv => ?_, ?_, World.cell?_setCell_same _ _ _ h.v, fun j => ?_⟩
  · rw [hne j (by omega)]; exact h.s j hj
  · have hk : k < 64 := by have := (List.getElem?_eq_some_iff.1 hv).1; rwa [b64_len] at this
    rw [hne _ (by omega)]; exact h.x j hj k v hv
  · rw [hne _ (by omega)]; exact h.a
  · rw [World.frozen?_setCell]; exact h.f j
/-- What is known behind both appends. -/
structure Mid10 (w : World) (o : Nat → Nat) (p : Nat) (S : Nat → Nat) (i N M lb : Nat) (v : Value) (l : List Nat) (wx : World) (ox : Nat → Nat) : Prop where
  bx : ∃ ava cva avw cvw als wls ls N', Bk wx p S S (.slice ava N' cva) (.slice avw N' cvw) ∧ ox p = 1 ∧ Row wx ox 2 37 1 (.slice ava N' cva) N' als ∧ Row wx ox 3 37 1 (.slice avw N' cvw) N' wls ∧ Lists wx ox als wls ls ∧ ls.length = N'
  tz : TzL wx ox
  rl : Row wx ox lb 3 1 v M (intsL l)
  st : Step (fun k => 0 < k) w o wx ox
theorem Mid10.step {I : Nat → Prop} {w : World} {o : Nat → Nat} {p : Nat} {S : Nat → Nat} {i N M lb : Nat} {v : Value} {l : List Nat} {wx wy : World} {ox oy : Nat → Nat} (h : Mid10 w o p S i N M lb v l wx ox) (s : Step I wx ox wy oy) (hlb : 20 ≤ lb) (hlb2 : lb < 98) (hI : ∀ k, I k → 98 ≤ k) : Mid10 w o p S i N M lb v l wy oy := by
  obtain ⟨⟨ava, cva, avw, cvw, als, wls, ls, N', h1, h2, h3, h4, h5, h6⟩, h7, h8, h9⟩ := h
  refine ⟨⟨ava, cva, avw, cvw, als, wls, ls, N', h1.step s (fun x => ?_), (h1.lab s).trans h2, h3.step s (fun x => ?_), h4.step s (fun x => ?_), h5.step s (fun k k1 k2 x => ?_), h6⟩, h7.step s (fun x => ?_), h8.step s (fun x => ?_), h9.trans (s.mono fun k x => ?_)⟩
  all_goals first | (have := hI _ x; omega) | (rw [h2] at x; have := hI _ x; omega)
theorem Mid10.bX {w : World} {o : Nat → Nat} {p : Nat} {S : Nat → Nat} {i N M lb : Nat} {v : Value} {l : List Nat} {wx : World} {ox : Nat → Nat} (h : Mid10 w o p S i N M lb v l wx ox) (hS : ∀ i, i < 4 → S i < top64) : BX wx ox p := by
  obtain ⟨⟨ava, cva, avw, cvw, als, wls, ls, N', h1, h2, h3, h4, h5, h6⟩, h7, h8, h9⟩ := h
  exact ⟨S, ava, cva, avw, cvw, als, wls, ls, N', h1, h2, hS, h3, h4, h5, h6, h7⟩
theorem Mid10.bk {w : World} {o : Nat → Nat} {p : Nat} {S : Nat → Nat} {i N M lb : Nat} {v : Value} {l : List Nat} {wx : World} {ox : Nat → Nat} (h : Mid10 w o p S i N M lb v l wx ox) : ∃ va vw, Bk wx p S S va vw := by
  obtain ⟨⟨ava, cva, avw, cvw, als, wls, ls, N', h1, h2, h3, h4, h5, h6⟩, h7, h8, h9⟩ := h
  exact ⟨_, _, h1⟩

set_option maxRecDepth 100000 in
set_option maxHeartbeats 8000000 in
theorem asks_10n (w : World) (o : Nat → Nat) (p : Nat) (S : Nat → Nat) (ava : Option Addr) (cva : Nat) (avw : Option Addr) (cvw : Nat) (als wls : List Value) (ls : List (List Nat)) (N : Nat) (hB : Bk w p S S (.slice ava N cva) (.slice avw N cvw)) (hop : o p = 1) (hS : ∀ i, i < 4 → S i < top64) (hAl : Row w o 2 37 1 (.slice ava N cva) N als) (hWl : Row w o 3 37 1 (.slice avw N cvw) N wls) (hL : Lists w o als wls ls) (hNe : ls.length = N) (hT : TzL w o) (hN : N < 30) (b c n : Int) (hb1 : -9223372036854775808 ≤ b) (hb2 : b ≤ 9223372036854775807) (hc1 : -9223372036854775808 ≤ c) (hc2 : c ≤ 9223372036854775807) (ao : Option Addr) (len cap : Nat) :
    Calls Tryd.prog 6 #[.pointer (some ⟨p, 0, none⟩), .agg #[.int .i64 10, .int .i64 b, .int .i64 c, .int .i64 n, .slice ao len cap]] w fun e w' => e = .returned (.bool true) ∧ ∃ o', BX w' o' p ∧ Step (fun k => 0 < k) w o w' o' := by
  have sB := allocStep (fun _ => False) w o (.cells #[.int .i64 10, .int .i64 b, .int .i64 c, .int .i64 n, .slice ao len cap] 39)
  have K1 := hB.step sB id
  have A1 := hAl.step sB id
  have W1 := hWl.step sB id
  have L1 := hL.step sB (fun _ _ _ => id)
  have T1 := hT.step sB id
  have S1 : Step (fun k => 0 < k) w o _ o := sB.mono (fun _ h => h.elim)
  have e3 : (w.alloc (.cells #[.int .i64 10, .int .i64 b, .int .i64 c, .int .i64 n, .slice ao len cap] 39)).heap[w.heap.size]? = some (.cells #[.int .i64 10, .int .i64 b, .int .i64 c, .int .i64 n, .slice ao len cap] 39 (0, 0)) := heap_alloc_new w _
  have hp1 := fun wx => pick_c b 4 wx hb1 hb2 (by omega) (by omega)
  have hp2 := fun wx => pick_c c 4 wx hc1 hc2 (by omega) (by omega)
  have hi := pk_lt b 4 (by omega)
  generalize pk b 4 = i at hp1 hi
  have hiI : (i : Int) < 4 := by omega
  have hSi := hS i hi
  have hle := hL.le
  have hal := fun wx hh => all_c (S i) wx o (20 + N) hSi hh (by omega)
  have hra := fun wx ox lb => refAll_c (S i) wx ox lb hSi
  have hMM := al_len_le (S i)
  obtain ⟨l, hl⟩ : ∃ l, l = al (S i) := ⟨_, rfl⟩
  obtain ⟨M, hM⟩ : ∃ M, M = l.length := ⟨_, rfl⟩
  rw [← hl] at hMM
  rw [← hl, ← hM] at hal
  have hra2 := hra
  rw [← hl, ← hM] at hra2
  rw [← hM] at hMM
  have HNe : Hid (ls.length = N) := hNe
  have HM : Hid (M = l.length) := hM
  clear hra hl hM hB hAl hWl hL hT sB hNe
  unfold sv at hal
  unfold av at hra2
  go_enter Tryd.func6, Tryd.ntmps6
  go_upto_region 1 with fail
  obtain ⟨b3, hb3⟩ : ∃ b3, b3 = w.heap.size := ⟨_, rfl⟩
  rw [← hb3] at e3 ⊢
  generalize w.alloc (.cells #[.int .i64 10, .int .i64 b, .int .i64 c, .int .i64 n, .slice ao len cap] 39) = w1 at K1 S1 T1 A1 W1 L1 e3 ⊢
  clear hb3
  have c0 : w1.cell? ⟨b3, 0, none⟩ = some (.int .i64 10) := by simp [cell_of_row w1 b3 _ _ _ (0, 0) e3]
  have c1 : w1.cell? ⟨b3, 1, none⟩ = some (.int .i64 b) := by simp [cell_of_row w1 b3 _ _ _ (0, 0) e3]
  have c2 : w1.cell? ⟨b3, 2, none⟩ = some (.int .i64 c) := by simp [cell_of_row w1 b3 _ _ _ (0, 0) e3]
  clear e3
  go_wp2_with fail
  refine (hp1 _).mono ?_
  rintro e w2 ⟨rfl, rfl⟩
  go_wp2_with fail
  refine (hp2 _).mono ?_
  rintro e w3 ⟨rfl, rfl⟩
  clear hp1 hp2
  have xi := K1.s i hi
  go_upto_region 12 with fail
  clear c0 c1 c2
  go_wp2_with fail
  refine (hal _ T1).mono ?_
  rintro e w4 ⟨vl, o4, rfl, rl, s4⟩
  obtain ⟨gl, cl, rfl⟩ := rl.form
  have hop4 : o4 p = 1 := (K1.lab s4).trans hop
  have K4 := K1.step s4 (by rw [hop]; omega)
  have A4 := A1.step s4 (by omega)
  have W4 := W1.step s4 (by omega)
  have L4 := Lists.stepN L1 s4 (fun i hi => by have := HNe.out; omega)
  have T4 := T1.step s4 (by omega)
  have S4 := S1.trans (s4.mono fun k hk => (by omega : 0 < k))
  clear K1 A1 W1 L1 T1 S1 hal xi s4
  have ca := K4.a
  have cv := K4.v
  have hNI : (N : Int) < 30 := by omega
  have b1 : N + 1 ≤ maxLen := by unfold maxLen; omega
  have b2 : (N + 1) * 24 ≤ 140737488355328 := by omega
  obtain ⟨is, his, hzs0, hzs1, hzs2⟩ := info_parts infoSl
  go_wp2_with (first | (at_builtin; refine wpList_append_lab rfl (.tmp 104) (.tmp 106) 33 rfl 37 is (.slice none 0 0) 1 24 Tryd.underlying33 his hzs0 hzs1 hzs2 rfl (by decide) o4 2 _ N als rfl (A4.step (allocStep (fun _ => False) _ o4 _) (by simp)) ⟨w4.heap.size, 0, none⟩ 1 1 [.slice gl M cl] rfl rfl (new_one_at (by simp) _ _) (one_slice _ _ _) (by decide) b1 b2 ?_) | go_in)
  intro g5 c5 w5 o5 r5 s5
  have u5 := (allocStep (fun x => x = 2) w4 o4 _).trans s5
  have K5 := K4.step u5 (by rw [hop4]; omega)
  have hop5 : o5 p = 1 := (K4.lab u5).trans hop4
  have s6 := setStep (fun x => x = 1) w5 o5 ⟨p, 260, none⟩ (.slice (some ⟨g5, 0, none⟩) (N + 1) c5) hop5
  have K6 := K5.setA (.slice (some ⟨g5, 0, none⟩) (N + 1) c5)
  have A6 := r5.step s6 (by omega)
  have W6 := (W4.step u5 (by omega)).step s6 (by omega)
  have L6 := (L4.step u5 (by omega)).step s6 (by omega)
  have R6 := (rl.step u5 (by omega)).step s6 (by omega)
  have T6 := (T4.step u5 (by omega)).step s6 (by omega)
  have S6 := (S4.trans (u5.mono fun k hk => (by omega : 0 < k))).trans (s6.mono fun k hk => (by omega : 0 < k))
  have hplt := K5.lt
  have ca5 := K5.a
  have fa5 := K5.f 260
  clear K4 A4 W4 L4 T4 S4 rl K5 r5 s5 u5 s6 ca cv hop4
  go_upto_region 15 with fail
  generalize w5.setCell ⟨p, 260, none⟩ (.slice (some ⟨g5, 0, none⟩) (N + 1) c5) = w6 at K6 A6 W6 L6 R6 T6 S6 ⊢
  have hop6 := hop5
  clear hop5 ca5 fa5 hplt
  generalize o5 = o6 at K6 A6 W6 L6 R6 T6 S6 hop6
  have r6 : w6.drew.rangeAt p (4 + i * 64) (b64 (S i)) := (World.rangeAt_drew _ _ _ _).2 (K6.x i hi)
  have cv6 : w6.drew.cell? ⟨p, 261, none⟩ = some (.slice avw N cvw) := K6.v
  have HX : Hid (∀ w7 o7, Step (fun k => k = 60 + N) w6.drew o6 w7 o7 → w7.rangeAt p (4 + i * 64) (b64 (S i)) ∧ w7.cell? ⟨p, 261, none⟩ = some (.slice avw N cvw) ∧ Row w7 o7 3 37 1 (.slice avw N cvw) N wls) := fun w7 o7 s7 => by
    have K7 := (K6.blk (w' := w6.drew) rfl).step s7 (by rw [hop6]; omega)
    exact ⟨K7.x i hi, K7.v, (W6.step ((Step.refl (fun _ => False) w6 o6).drew) id).step s7 (by omega)⟩
  have HF : Hid (∀ w7 o7 v7, Row w7 o7 (60 + N) 3 1 v7 M (intsL l) → Step (fun k => k = 60 + N) w6.drew o6 w7 o7 → ∀ w9 o9 g9 c9, Row w9 o9 3 37 1 (.slice (some ⟨g9, 0, none⟩) (N + 1) c9) (N + 1) (wls ++ [v7]) → Step (fun k => k = 3) w7 o7 w9 o9 → (∃ ox, Mid10 w o p S i N M (20 + N) (.slice gl M cl) l (w9.setCell ⟨p, 261, none⟩ (.slice (some ⟨g9, 0, none⟩) (N + 1) c9)) ox) ∧ w9.rangeAt p (4 + i * 64) (b64 (S i)) ∧ w9.cell? ⟨p, 261, none⟩ = some (.slice avw N cvw) ∧ w9.frozen? ⟨p, 261, none⟩ = false ∧ (w9.setCell ⟨p, 261, none⟩ (.slice (some ⟨g9, 0, none⟩) (N + 1) c9)).rangeAt p (4 + i * 64) (b64 (S i))) := fun w7 o7 v7 r7 s7' w9 o9 g9 c9 r9 s9 => by
    have s7 : Step (fun k => k = 60 + N) w6 o6 w7 o7 := (Step.refl _ w6 o6).drew.trans s7'
    have K7 := K6.step s7 (by rw [hop6]; omega)
    have hop7 : o7 p = 1 := (K6.lab s7).trans hop6
    have K9 := K7.step s9 (by rw [hop7]; omega)
    have hop9 : o9 p = 1 := (K7.lab s9).trans hop7
    have s10 := setStep (fun x => x = 1) w9 o9 ⟨p, 261, none⟩ (.slice (some ⟨g9, 0, none⟩) (N + 1) c9) hop9
    have K10 := K9.setV (.slice (some ⟨g9, 0, none⟩) (N + 1) c9)
    have A10 := ((A6.step s7 (by omega)).step s9 (by omega)).step s10 (by omega)
    have W10 := r9.step s10 (by omega)
    have L10 := ((Lists.stepN L6 s7 (fun i hi => by have := HNe.out; omega)).step s9 (by omega)).step s10 (by omega)
    have R10 := ((R6.step s7 (by omega)).step s9 (by omega)).step s10 (by omega)
    have V10 := (r7.step s9 (by omega)).step s10 (by omega)
    have T10 := ((T6.step s7 (by omega)).step s9 (by omega)).step s10 (by omega)
    have hNe := HNe.out
    have hM := HM.out
    have P10 := Lists.push L10 (by omega) (by omega) (l := l) (by rw [hNe, ← hM]; exact R10) (by rw [hNe, ← hM]; exact V10)
    exact ⟨⟨o9, ⟨⟨_, _, _, _, _, _, _, N + 1, K10, hop9, A10, W10, P10, by simp [hNe]⟩, T10, R10, ((S6.trans (s7.mono fun k hk => (by omega : 0 < k))).trans (s9.mono fun k hk => (by omega : 0 < k))).trans (s10.mono fun k hk => (by omega : 0 < k))⟩⟩, K9.x i hi, K9.v, K9.f 261, K10.x i hi⟩
  clear K6 A6 W6 L6 R6 T6 S6
  go_cut [] (fun wx => ∃ ox, Mid10 w o p S i N M (20 + N) (.slice gl M cl) l wx ox)
  case first =>
    refine wp_region_noPanic ?_
    refine wp_region_held_drew (S := fun wx => wx.rangeAt p (4 + i * 64) (b64 (S i))) (by kernel_rfl) (r6) (fun hHeld => ?_)
    refine wpAnyH_take (i := 0) (v := ?v1) rfl (by kernel_rfl) (by kernel_rfl) (by kernel_rfl) (fun _ _ _ h => h) (Or.inl ⟨by rfl, ?hy1⟩) (by assumption) ?rest1
    case hy1 => (intro w hSw; (try dsimp only at hSw); go_simp; all_goals (with_reducible rfl))
    simp only [Act.put, List.getElem_toArray, List.getElem_cons_zero, List.getElem_cons_succ, List.setIfInBounds_toArray, List.set_cons_zero, List.set_cons_succ]
    refine wpAnyH_take (i := 1) (v := ?v2) rfl (by kernel_rfl) (by kernel_rfl) (by kernel_rfl) (fun _ _ _ h => h) (Or.inl ⟨by rfl, ?hy2⟩) (by assumption) ?rest2
    case hy2 => (intro w hSw; (try dsimp only at hSw); go_simp; all_goals (with_reducible rfl))
    simp only [Act.put, List.getElem_toArray, List.getElem_cons_zero, List.getElem_cons_succ, List.setIfInBounds_toArray, List.set_cons_zero, List.set_cons_succ]
    refine wpAnyH_take (i := 2) (v := ?v3) rfl (by kernel_rfl) (by kernel_rfl) (by kernel_rfl) (fun _ _ _ h => h) (Or.inl ⟨by rfl, ?hy3⟩) (by assumption) ?rest3
    case hy3 => (intro w hSw; (try dsimp only at hSw); go_simp; all_goals (with_reducible rfl))
    simp only [Act.put, List.getElem_toArray, List.getElem_cons_zero, List.getElem_cons_succ, List.setIfInBounds_toArray, List.set_cons_zero, List.set_cons_succ]
    refine wpAnyH_take (i := 3) (v := ?v4) rfl (by kernel_rfl) (by kernel_rfl) (by kernel_rfl) (fun _ _ _ h => h) (Or.inl ⟨by rfl, ?hy4⟩) (by assumption) ?rest4
    case hy4 => (intro w hSw; (try dsimp only at hSw); go_simp; all_goals (with_reducible rfl))
    simp only [Act.put, List.getElem_toArray, List.getElem_cons_zero, List.getElem_cons_succ, List.setIfInBounds_toArray, List.set_cons_zero, List.set_cons_succ]
    refine wpAnyH_take (i := 5) (v := ?v5) rfl (by kernel_rfl) (by kernel_rfl) (by kernel_rfl) (fun _ _ _ h => h) (Or.inl ⟨by rfl, ?hy5⟩) (by assumption) ?rest5
    case hy5 => (intro w hSw; (try dsimp only at hSw); go_simp; all_goals (with_reducible rfl))
    simp only [Act.put, List.getElem_toArray, List.getElem_cons_zero, List.getElem_cons_succ, List.setIfInBounds_toArray, List.set_cons_zero, List.set_cons_succ]
    refine wpAnyH_take (i := 6) (v := ?v6) rfl (by kernel_rfl) (by kernel_rfl) (by kernel_rfl) (fun _ _ _ h => h) (Or.inl ⟨by rfl, ?hy6⟩) (by assumption) ?rest6
    case hy6 => (intro w hSw; (try dsimp only at hSw); go_simp; all_goals (with_reducible rfl))
    simp only [Act.put, List.getElem_toArray, List.getElem_cons_zero, List.getElem_cons_succ, List.setIfInBounds_toArray, List.set_cons_zero, List.set_cons_succ]
    refine wpAnyH_take (i := 7) (v := ?v7) rfl (by kernel_rfl) (by kernel_rfl) (by kernel_rfl) (fun _ _ _ h => h) (Or.inl ⟨by rfl, ?hy7⟩) (by assumption) ?rest7
    case hy7 => (intro w hSw; (try dsimp only at hSw); go_simp; all_goals (with_reducible rfl))
    simp only [Act.put, List.getElem_toArray, List.getElem_cons_zero, List.getElem_cons_succ, List.setIfInBounds_toArray, List.set_cons_zero, List.set_cons_succ]
    refine wpAnyH_take (i := 8) (v := ?v8) rfl (by kernel_rfl) (by kernel_rfl) (by kernel_rfl) (fun _ _ _ h => h) (Or.inl ⟨by rfl, ?hy8⟩) (by assumption) ?rest8
    case hy8 => (intro w hSw; (try dsimp only at hSw); go_simp; all_goals (with_reducible rfl))
    simp only [Act.put, List.getElem_toArray, List.getElem_cons_zero, List.getElem_cons_succ, List.setIfInBounds_toArray, List.set_cons_zero, List.set_cons_succ]
    refine wpAnyH_take (i := 9) (v := ?v9) rfl (by kernel_rfl) (by kernel_rfl) (by kernel_rfl) (fun _ _ _ h => h) (Or.inl ⟨by rfl, ?hy9⟩) (by assumption) ?rest9
    case hy9 => (intro w hSw; (try dsimp only at hSw); go_simp; all_goals (with_reducible rfl))
    simp only [Act.put, List.getElem_toArray, List.getElem_cons_zero, List.getElem_cons_succ, List.setIfInBounds_toArray, List.set_cons_zero, List.set_cons_succ]
    refine wpAnyH_take (i := 10) (v := .agg (b64 (S i)).toArray) rfl (by kernel_rfl) (by kernel_rfl) (by kernel_rfl) (fun _ _ _ h => h) (yieldsIf_load_mid (by rfl) 31 _ rfl p (4 + i * 64) rfl (b64 (S i)) _ (fun w hSw => hSw) Tryd.underlying31 rfl (sizeSet9 _)) (by assumption) ?_
    simp only [Act.put, List.getElem_toArray, List.getElem_cons_zero, List.getElem_cons_succ, List.setIfInBounds_toArray, List.set_cons_zero, List.set_cons_succ]
    refine wpAnyH_ready (rs := [4, 11]) (by kernel_rfl) (by simp) ?_
    refine AllReadyH.cons rfl (fun K hK => ?_) (AllReadyH.cons rfl (fun K hK => ?_) AllReadyH.nil)
    · go_simp
      refine hK.out _ _ hHeld (fun hHeld => ?_)
      clear hK K
      try simp only [Act.put, List.getElem_toArray, List.getElem_cons_zero, List.getElem_cons_succ, List.setIfInBounds_toArray, List.set_cons_zero, List.set_cons_succ]
      refine wpAnyH_ready (rs := [11]) (by kernel_rfl) (by simp) ?_
      refine AllReadyH.cons rfl (fun K hK => ?_) AllReadyH.nil
      go_simp
      refine (hra2 _ o6 (60 + N)).mono ?_
      rintro e w7 ⟨v7, o7, rfl, r7, s7⟩
      obtain ⟨g7, c7, rfl⟩ := r7.form
      obtain ⟨y7, z7, hz7⟩ := HX.out _ _ s7
      dsimp only
      refine hK.out _ _ y7 (fun hHeld => ?_)
      clear hK K
      try simp only [Act.put, List.getElem_toArray, List.getElem_cons_zero, List.getElem_cons_succ, List.setIfInBounds_toArray, List.set_cons_zero, List.set_cons_succ]
      refine wpAnyH_ready (rs := [12]) (by kernel_rfl) (by simp) ?_
      refine AllReadyH.cons rfl (fun K hK => ?_) AllReadyH.nil
      go_simp
      have y8 := keep_range (bal (b0 w7) (.cells #[.slice g7 M c7] 37)) y7
      have z8 := keep_below (bal (b0 w7) (.cells #[.slice g7 M c7] 37)) z7
      refine hK.out _ _ y8 (fun hHeld => ?_)
      clear hK K
      try simp only [Act.put, List.getElem_toArray, List.getElem_cons_zero, List.getElem_cons_succ, List.setIfInBounds_toArray, List.set_cons_zero, List.set_cons_succ]
      refine wpAnyH_ready (rs := [13]) (by kernel_rfl) (by simp) ?_
      refine AllReadyH.cons rfl (fun K hK => ?_) AllReadyH.nil
      refine step_append_lab rfl (.tmp 114) (.tmp 122) 33 rfl 37 is (.slice none 0 0) 1 24 Tryd.underlying33 his hzs0 hzs1 hzs2 rfl (by decide) o7 3 _ N wls (by simp [Act.eval]) (hz7.step (allocStep (fun _ => False) w7 o7 _) (by simp)) ⟨w7.heap.size, 0, none⟩ 1 1 [.slice g7 M c7] (by simp [Act.eval]) rfl (new_one_at (by simp) _ _) (one_slice _ _ _) (by decide) b1 b2 ?_
      intro g9 c9 w9 o9 r9 s9
      have s9b := (allocStep (fun x => x = 3) w7 o7 _).trans s9
      obtain ⟨F1, y9, z9, hf9, y10⟩ := HF.out _ _ _ r7 s7 _ _ _ _ r9 s9b
      refine hK.out _ _ y9 (fun hHeld => ?_)
      clear hK K
      try simp only [Act.put, List.getElem_toArray, List.getElem_cons_zero, List.getElem_cons_succ, List.setIfInBounds_toArray, List.set_cons_zero, List.set_cons_succ]
      refine wpAnyH_take (i := 14) (v := ?v10) rfl (by kernel_rfl) (by kernel_rfl) (by kernel_rfl) (fun _ _ _ h => h) (Or.inl ⟨by rfl, ?hy10⟩) (by assumption) ?rest10
      case hy10 => (intro w hSw; (try dsimp only at hSw); go_simp; all_goals (with_reducible rfl))
      simp only [Act.put, List.getElem_toArray, List.getElem_cons_zero, List.getElem_cons_succ, List.setIfInBounds_toArray, List.set_cons_zero, List.set_cons_succ]
      refine wpAnyH_take (i := 15) (v := ?v11) rfl (by kernel_rfl) (by kernel_rfl) (by kernel_rfl) (fun _ _ _ h => h) (Or.inl ⟨by rfl, ?hy11⟩) (by assumption) ?rest11
      case hy11 => (intro w hSw; (try dsimp only at hSw); go_simp; all_goals (with_reducible rfl))
      simp only [Act.put, List.getElem_toArray, List.getElem_cons_zero, List.getElem_cons_succ, List.setIfInBounds_toArray, List.set_cons_zero, List.set_cons_succ]
      refine wpAnyH_ready (rs := [16]) (by kernel_rfl) (by simp) ?_
      refine AllReadyH.cons rfl (fun K hK => ?_) AllReadyH.nil
      go_simp
      refine hK.out _ _ y10 (fun hHeld => ?_)
      clear hK K
      try simp only [Act.put, List.getElem_toArray, List.getElem_cons_zero, List.getElem_cons_succ, List.setIfInBounds_toArray, List.set_cons_zero, List.set_cons_succ]
      refine wpAnyH_done (by kernel_rfl) ?_ _
      refine NoPanic.normal ?_
      go_wp2
      go_meet
      exact F1
    · go_simp
      refine (hra2 _ o6 (60 + N)).mono ?_
      rintro e w7 ⟨v7, o7, rfl, r7, s7⟩
      obtain ⟨g7, c7, rfl⟩ := r7.form
      obtain ⟨y7, z7, hz7⟩ := HX.out _ _ s7
      dsimp only
      refine hK.out _ _ y7 (fun hHeld => ?_)
      clear hK K
      try simp only [Act.put, List.getElem_toArray, List.getElem_cons_zero, List.getElem_cons_succ, List.setIfInBounds_toArray, List.set_cons_zero, List.set_cons_succ]
      refine wpAnyH_ready (rs := [4, 12]) (by kernel_rfl) (by simp) ?_
      refine AllReadyH.cons rfl (fun K hK => ?_) (AllReadyH.cons rfl (fun K hK => ?_) AllReadyH.nil)
      · go_simp
        refine hK.out _ _ hHeld (fun hHeld => ?_)
        clear hK K
        try simp only [Act.put, List.getElem_toArray, List.getElem_cons_zero, List.getElem_cons_succ, List.setIfInBounds_toArray, List.set_cons_zero, List.set_cons_succ]
        refine wpAnyH_ready (rs := [12]) (by kernel_rfl) (by simp) ?_
        refine AllReadyH.cons rfl (fun K hK => ?_) AllReadyH.nil
        go_simp
        have y8 := keep_range (bal (b0 w7) (.cells #[.slice g7 M c7] 37)) y7
        have z8 := keep_below (bal (b0 w7) (.cells #[.slice g7 M c7] 37)) z7
        refine hK.out _ _ y8 (fun hHeld => ?_)
        clear hK K
        try simp only [Act.put, List.getElem_toArray, List.getElem_cons_zero, List.getElem_cons_succ, List.setIfInBounds_toArray, List.set_cons_zero, List.set_cons_succ]
        refine wpAnyH_ready (rs := [13]) (by kernel_rfl) (by simp) ?_
        refine AllReadyH.cons rfl (fun K hK => ?_) AllReadyH.nil
        refine step_append_lab rfl (.tmp 114) (.tmp 122) 33 rfl 37 is (.slice none 0 0) 1 24 Tryd.underlying33 his hzs0 hzs1 hzs2 rfl (by decide) o7 3 _ N wls (by simp [Act.eval]) (hz7.step (allocStep (fun _ => False) w7 o7 _) (by simp)) ⟨w7.heap.size, 0, none⟩ 1 1 [.slice g7 M c7] (by simp [Act.eval]) rfl (new_one_at (by simp) _ _) (one_slice _ _ _) (by decide) b1 b2 ?_
        intro g9 c9 w9 o9 r9 s9
        have s9b := (allocStep (fun x => x = 3) w7 o7 _).trans s9
        obtain ⟨F1, y9, z9, hf9, y10⟩ := HF.out _ _ _ r7 s7 _ _ _ _ r9 s9b
        refine hK.out _ _ y9 (fun hHeld => ?_)
        clear hK K
        try simp only [Act.put, List.getElem_toArray, List.getElem_cons_zero, List.getElem_cons_succ, List.setIfInBounds_toArray, List.set_cons_zero, List.set_cons_succ]
        refine wpAnyH_take (i := 14) (v := ?v12) rfl (by kernel_rfl) (by kernel_rfl) (by kernel_rfl) (fun _ _ _ h => h) (Or.inl ⟨by rfl, ?hy12⟩) (by assumption) ?rest12
        case hy12 => (intro w hSw; (try dsimp only at hSw); go_simp; all_goals (with_reducible rfl))
        simp only [Act.put, List.getElem_toArray, List.getElem_cons_zero, List.getElem_cons_succ, List.setIfInBounds_toArray, List.set_cons_zero, List.set_cons_succ]
        refine wpAnyH_take (i := 15) (v := ?v13) rfl (by kernel_rfl) (by kernel_rfl) (by kernel_rfl) (fun _ _ _ h => h) (Or.inl ⟨by rfl, ?hy13⟩) (by assumption) ?rest13
        case hy13 => (intro w hSw; (try dsimp only at hSw); go_simp; all_goals (with_reducible rfl))
        simp only [Act.put, List.getElem_toArray, List.getElem_cons_zero, List.getElem_cons_succ, List.setIfInBounds_toArray, List.set_cons_zero, List.set_cons_succ]
        refine wpAnyH_ready (rs := [16]) (by kernel_rfl) (by simp) ?_
        refine AllReadyH.cons rfl (fun K hK => ?_) AllReadyH.nil
        go_simp
        refine hK.out _ _ y10 (fun hHeld => ?_)
        clear hK K
        try simp only [Act.put, List.getElem_toArray, List.getElem_cons_zero, List.getElem_cons_succ, List.setIfInBounds_toArray, List.set_cons_zero, List.set_cons_succ]
        refine wpAnyH_done (by kernel_rfl) ?_ _
        refine NoPanic.normal ?_
        go_wp2
        go_meet
        exact F1
      · go_simp
        have y8 := keep_range (bal (b0 w7) (.cells #[.slice g7 M c7] 37)) y7
        have z8 := keep_below (bal (b0 w7) (.cells #[.slice g7 M c7] 37)) z7
        refine hK.out _ _ y8 (fun hHeld => ?_)
        clear hK K
        try simp only [Act.put, List.getElem_toArray, List.getElem_cons_zero, List.getElem_cons_succ, List.setIfInBounds_toArray, List.set_cons_zero, List.set_cons_succ]
        refine wpAnyH_ready (rs := [4]) (by kernel_rfl) (by simp) ?_
        refine AllReadyH.cons rfl (fun K hK => ?_) AllReadyH.nil
        go_simp
        refine hK.out _ _ hHeld (fun hHeld => ?_)
        clear hK K
        try simp only [Act.put, List.getElem_toArray, List.getElem_cons_zero, List.getElem_cons_succ, List.setIfInBounds_toArray, List.set_cons_zero, List.set_cons_succ]
        refine wpAnyH_ready (rs := [13]) (by kernel_rfl) (by simp) ?_
        refine AllReadyH.cons rfl (fun K hK => ?_) AllReadyH.nil
        refine step_append_lab rfl (.tmp 114) (.tmp 122) 33 rfl 37 is (.slice none 0 0) 1 24 Tryd.underlying33 his hzs0 hzs1 hzs2 rfl (by decide) o7 3 _ N wls (by simp [Act.eval]) (hz7.step (allocStep (fun _ => False) w7 o7 _) (by simp)) ⟨w7.heap.size, 0, none⟩ 1 1 [.slice g7 M c7] (by simp [Act.eval]) rfl (new_one_at (by simp) _ _) (one_slice _ _ _) (by decide) b1 b2 ?_
        intro g9 c9 w9 o9 r9 s9
        have s9b := (allocStep (fun x => x = 3) w7 o7 _).trans s9
        obtain ⟨F1, y9, z9, hf9, y10⟩ := HF.out _ _ _ r7 s7 _ _ _ _ r9 s9b
        refine hK.out _ _ y9 (fun hHeld => ?_)
        clear hK K
        try simp only [Act.put, List.getElem_toArray, List.getElem_cons_zero, List.getElem_cons_succ, List.setIfInBounds_toArray, List.set_cons_zero, List.set_cons_succ]
        refine wpAnyH_take (i := 14) (v := ?v14) rfl (by kernel_rfl) (by kernel_rfl) (by kernel_rfl) (fun _ _ _ h => h) (Or.inl ⟨by rfl, ?hy14⟩) (by assumption) ?rest14
        case hy14 => (intro w hSw; (try dsimp only at hSw); go_simp; all_goals (with_reducible rfl))
        simp only [Act.put, List.getElem_toArray, List.getElem_cons_zero, List.getElem_cons_succ, List.setIfInBounds_toArray, List.set_cons_zero, List.set_cons_succ]
        refine wpAnyH_take (i := 15) (v := ?v15) rfl (by kernel_rfl) (by kernel_rfl) (by kernel_rfl) (fun _ _ _ h => h) (Or.inl ⟨by rfl, ?hy15⟩) (by assumption) ?rest15
        case hy15 => (intro w hSw; (try dsimp only at hSw); go_simp; all_goals (with_reducible rfl))
        simp only [Act.put, List.getElem_toArray, List.getElem_cons_zero, List.getElem_cons_succ, List.setIfInBounds_toArray, List.set_cons_zero, List.set_cons_succ]
        refine wpAnyH_ready (rs := [16]) (by kernel_rfl) (by simp) ?_
        refine AllReadyH.cons rfl (fun K hK => ?_) AllReadyH.nil
        go_simp
        refine hK.out _ _ y10 (fun hHeld => ?_)
        clear hK K
        try simp only [Act.put, List.getElem_toArray, List.getElem_cons_zero, List.getElem_cons_succ, List.setIfInBounds_toArray, List.set_cons_zero, List.set_cons_succ]
        refine wpAnyH_done (by kernel_rfl) ?_ _
        refine NoPanic.normal ?_
        go_wp2
        go_meet
        exact F1
  case rest =>
  obtain ⟨ox, hm⟩ := hcut
  obtain ⟨va', vw', K11⟩ := hm.bk
  have q11 := K11.x i hi
  clear HX HF r6 cv6 K11
  go_wp2_with (refine wpList_load_mid rfl 31 _ rfl p (4 + i * 64) rfl (b64 (S i)) _ q11 Tryd.underlying31 rfl (sizeSet9 _) ?_)
  refine (hra2 _ ox 99).mono ?_
  rintro e w12 ⟨v12, o12, rfl, r12, s12⟩
  have hm2 := hm.step s12 (by omega) (by omega) (fun k hk => by omega)
  obtain ⟨g12, c12, rfl⟩ := r12.form
  clear hm s12 q11
  go_wp2_with fail
  refine (same_yes _ o12 o12 _ _ M l _ _ HM.out.symm (by omega) hm2.rl r12).mono ?_
  rintro e w13 ⟨rfl, m13, rfl⟩
  have hm3 := hm2.step ((Step.refl (fun _ => False) w12 o12).drewN m13) (by omega) (by omega) (fun k hk => hk.elim)
  have HR : Hid (BX (w12.drewN m13) o12 p ∧ Step (fun k => 0 < k) w o (w12.drewN m13) o12) := ⟨hm3.bX hS, hm3.st⟩
  clear hm2 hm3 r12
  go_wp2
  go_ret
  exact ⟨rfl, o12, HR.out⟩
set_option maxRecDepth 100000 in
set_option maxHeartbeats 8000000 in
theorem asks_10o (w : World) (o : Nat → Nat) (p : Nat) (S : Nat → Nat) (ava : Option Addr) (cva : Nat) (avw : Option Addr) (cvw : Nat) (als wls : List Value) (ls : List (List Nat)) (N : Nat) (hB : Bk w p S S (.slice ava N cva) (.slice avw N cvw)) (hop : o p = 1) (hS : ∀ i, i < 4 → S i < top64) (hAl : Row w o 2 37 1 (.slice ava N cva) N als) (hWl : Row w o 3 37 1 (.slice avw N cvw) N wls) (hL : Lists w o als wls ls) (hNe : ls.length = N) (hT : TzL w o) (hN : ¬ N < 30) (b c n : Int) (hb1 : -9223372036854775808 ≤ b) (hb2 : b ≤ 9223372036854775807) (hc1 : -9223372036854775808 ≤ c) (hc2 : c ≤ 9223372036854775807) (ao : Option Addr) (len cap : Nat) :
    Calls Tryd.prog 6 #[.pointer (some ⟨p, 0, none⟩), .agg #[.int .i64 10, .int .i64 b, .int .i64 c, .int .i64 n, .slice ao len cap]] w fun e w' => e = .returned (.bool true) ∧ ∃ o', BX w' o' p ∧ Step (fun k => 0 < k) w o w' o' := by
  have sB := allocStep (fun _ => False) w o (.cells #[.int .i64 10, .int .i64 b, .int .i64 c, .int .i64 n, .slice ao len cap] 39)
  have K1 := hB.step sB id
  have A1 := hAl.step sB id
  have W1 := hWl.step sB id
  have L1 := hL.step sB (fun _ _ _ => id)
  have T1 := hT.step sB id
  have S1 : Step (fun k => 0 < k) w o _ o := sB.mono (fun _ h => h.elim)
  have e3 : (w.alloc (.cells #[.int .i64 10, .int .i64 b, .int .i64 c, .int .i64 n, .slice ao len cap] 39)).heap[w.heap.size]? = some (.cells #[.int .i64 10, .int .i64 b, .int .i64 c, .int .i64 n, .slice ao len cap] 39 (0, 0)) := heap_alloc_new w _
  have hp1 := fun wx => pick_c b 4 wx hb1 hb2 (by omega) (by omega)
  have hp2 := fun wx => pick_c c 4 wx hc1 hc2 (by omega) (by omega)
  have hi := pk_lt b 4 (by omega)
  generalize pk b 4 = i at hp1 hi
  have hiI : (i : Int) < 4 := by omega
  have hSi := hS i hi
  have hle := hL.le
  have hal := fun wx hh => all_c (S i) wx o 97 hSi hh (by omega)
  have hra := fun wx ox lb => refAll_c (S i) wx ox lb hSi
  have hMM := al_len_le (S i)
  obtain ⟨l, hl⟩ : ∃ l, l = al (S i) := ⟨_, rfl⟩
  obtain ⟨M, hM⟩ : ∃ M, M = l.length := ⟨_, rfl⟩
  rw [← hl] at hMM
  rw [← hl, ← hM] at hal
  have hra2 := hra
  rw [← hl, ← hM] at hra2
  rw [← hM] at hMM
  have HNe : Hid (ls.length = N) := hNe
  have HM : Hid (M = l.length) := hM
  clear hra hl hM hB hAl hWl hL hT sB hNe
  unfold sv at hal
  unfold av at hra2
  go_enter Tryd.func6, Tryd.ntmps6
  go_upto_region 1 with fail
  obtain ⟨b3, hb3⟩ : ∃ b3, b3 = w.heap.size := ⟨_, rfl⟩
  rw [← hb3] at e3 ⊢
  generalize w.alloc (.cells #[.int .i64 10, .int .i64 b, .int .i64 c, .int .i64 n, .slice ao len cap] 39) = w1 at K1 S1 T1 A1 W1 L1 e3 ⊢
  clear hb3
  have c0 : w1.cell? ⟨b3, 0, none⟩ = some (.int .i64 10) := by simp [cell_of_row w1 b3 _ _ _ (0, 0) e3]
  have c1 : w1.cell? ⟨b3, 1, none⟩ = some (.int .i64 b) := by simp [cell_of_row w1 b3 _ _ _ (0, 0) e3]
  have c2 : w1.cell? ⟨b3, 2, none⟩ = some (.int .i64 c) := by simp [cell_of_row w1 b3 _ _ _ (0, 0) e3]
  clear e3
  go_wp2_with fail
  refine (hp1 _).mono ?_
  rintro e w2 ⟨rfl, rfl⟩
  go_wp2_with fail
  refine (hp2 _).mono ?_
  rintro e w3 ⟨rfl, rfl⟩
  clear hp1 hp2
  have xi := K1.s i hi
  go_upto_region 12 with fail
  clear c0 c1 c2
  go_wp2_with fail
  refine (hal _ T1).mono ?_
  rintro e w4 ⟨vl, o4, rfl, rl, s4⟩
  obtain ⟨gl, cl, rfl⟩ := rl.form
  have hop4 : o4 p = 1 := (K1.lab s4).trans hop
  have K4 := K1.step s4 (by rw [hop]; omega)
  have A4 := A1.step s4 (by omega)
  have W4 := W1.step s4 (by omega)
  have L4 := Lists.stepN L1 s4 (fun i hi => by have := HNe.out; omega)
  have T4 := T1.step s4 (by omega)
  have S4 := S1.trans (s4.mono fun k hk => (by omega : 0 < k))
  clear K1 A1 W1 L1 T1 S1 hal xi s4
  have ca := K4.a
  have cv := K4.v
  have hNI : ¬ (N : Int) < 30 := by omega
  have hm : Mid10 w o p S i N M 97 (.slice gl M cl) l w4 o4 := ⟨⟨_, _, _, _, _, _, _, N, K4, hop4, A4, W4, L4, HNe.out⟩, T4, rl, S4⟩
  have q11 := K4.x i hi
  clear K4 A4 W4 L4 T4 rl S4
  go_wp2_with (refine wpList_load_mid rfl 31 _ rfl p (4 + i * 64) rfl (b64 (S i)) _ q11 Tryd.underlying31 rfl (sizeSet9 _) ?_)
  refine (hra2 _ o4 99).mono ?_
  rintro e w12 ⟨v12, o12, rfl, r12, s12⟩
  have hm2 := hm.step s12 (by omega) (by omega) (fun k hk => by omega)
  obtain ⟨g12, c12, rfl⟩ := r12.form
  clear hm s12 q11
  go_wp2_with fail
  refine (same_yes _ o12 o12 _ _ M l _ _ HM.out.symm (by omega) hm2.rl r12).mono ?_
  rintro e w13 ⟨rfl, m13, rfl⟩
  have hm3 := hm2.step ((Step.refl (fun _ => False) w12 o12).drewN m13) (by omega) (by omega) (fun k hk => hk.elim)
  have HR : Hid (BX (w12.drewN m13) o12 p ∧ Step (fun k => 0 < k) w o (w12.drewN m13) o12) := ⟨hm3.bX hS, hm3.st⟩
  clear hm2 hm3 r12
  go_wp2
  go_ret
  exact ⟨rfl, o12, HR.out⟩
end Go.Proofs.YtmnmjmhmdnjdlaaDoor
