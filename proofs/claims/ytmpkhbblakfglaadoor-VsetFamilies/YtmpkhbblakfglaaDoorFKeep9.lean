/- VsetFamilies: lists of texts that came out are kept, with what they were. -/
import Derived.Test.YtmpkhbblakfglaaDoorFPurge9
import Derived.Test.YtmpkhbblakfglaaDoorFText9
import Derived.Deep.CutBlock
import Derived.Deep.DeepCutAuto
namespace Go.Proofs.YtmpkhbblakfglaaDoor
open Go.ChangeShapes Go.WideShapes Go.ChangeAt Go.RowKit Go.Maps
set_option linter.unusedVariables false
set_option linter.unusedSimpArgs false

/-- Lists of texts that came out, and what they were. -/
structure LT (w : World) (o : Nat → Nat) (B : Nat) (als wls : List Value) (ls : List (List ByteArray)) : Prop where
  la : als.length = ls.length
  lw : wls.length = ls.length
  le : ls.length ≤ 40
  len : ∀ i, i < ls.length → (ls.getD i []).length ≤ 16
  all : ∀ i, i < ls.length → Row w o (B + 500 + i) 9 1 (als.getD i (.slice none 0 0)) (ls.getD i []).length (strsL (ls.getD i []))
  was : ∀ i, i < ls.length → Row w o (B + 600 + i) 9 1 (wls.getD i (.slice none 0 0)) (ls.getD i []).length (strsL (ls.getD i []))
theorem LT.step {I : Nat → Prop} {w w' : World} {o o' : Nat → Nat} {B : Nat} {als wls : List Value} {ls : List (List ByteArray)} (h : LT w o B als wls ls) (s : Step I w o w' o') (hi : ∀ i, i < ls.length → ¬ I (B + 500 + i) ∧ ¬ I (B + 600 + i)) : LT w' o' B als wls ls :=
  ⟨h.la, h.lw, h.le, h.len, fun i hl => (h.all i hl).step s (hi i hl).1, fun i hl => (h.was i hl).step s (hi i hl).2⟩
theorem LT.nil (w : World) (o : Nat → Nat) (B : Nat) : LT w o B [] [] [] := ⟨rfl, rfl, by simp, fun i h => by simp at h, fun i h => by simp at h, fun i h => by simp at h⟩
theorem getD_snoc9 {α : Type} (l : List α) (x d : α) (i : Nat) : (l ++ [x]).getD i d = if i < l.length then l.getD i d else if i = l.length then x else d := by
  rw [List.getD_eq_getElem?_getD, List.getElem?_append]
  by_cases h : i < l.length
  · simp [h]
  · by_cases e : i = l.length
    · simp [e]
    · have : 0 < i - l.length := by omega
      simp [h, e, List.getElem?_eq_none (l := [x]) (i := i - l.length) (by simp; omega)]
theorem LT.push {w : World} {o : Nat → Nat} {B : Nat} {als wls : List Value} {ls : List (List ByteArray)} {va vw : Value} {l : List ByteArray} (h : LT w o B als wls ls) (hN : ls.length < 40) (hl : l.length ≤ 16)
    (ha : Row w o (B + 500 + ls.length) 9 1 va l.length (strsL l)) (hw : Row w o (B + 600 + ls.length) 9 1 vw l.length (strsL l)) : LT w o B (als ++ [va]) (wls ++ [vw]) (ls ++ [l]) := by
  have h1 := h.la
  have h2 := h.lw
  have e : (ls ++ [l]).length = ls.length + 1 := by simp
  refine ⟨by simp [h1], by simp [h2], by omega, fun i hi => ?_, fun i hi => ?_, fun i hi => ?_⟩
  · rw [getD_snoc9]
    by_cases hi' : i < ls.length
    · rw [if_pos hi']; exact h.len i hi'
    · rw [if_neg hi', if_pos (by omega)]; exact hl
  · rw [getD_snoc9, getD_snoc9, h1]
    by_cases hi' : i < ls.length
    · rw [if_pos hi', if_pos hi']; exact h.all i hi'
    · obtain rfl : i = ls.length := by omega
      rw [if_neg (by omega), if_pos rfl, if_neg (by omega), if_pos rfl]
      exact ha
  · rw [getD_snoc9, getD_snoc9, h2]
    by_cases hi' : i < ls.length
    · rw [if_pos hi', if_pos hi']; exact h.was i hi'
    · obtain rfl : i = ls.length := by omega
      rw [if_neg (by omega), if_pos rfl, if_neg (by omega), if_pos rfl]
      exact hw
/-- What is kept: two slices of slices in a side's cells. -/
structure KP (w : World) (o : Nat → Nat) (B ps : Nat) (c0 c1 : Value) (N : Nat) (ls : List (List ByteArray)) (va vw : Value) (als wls : List Value) : Prop where
  blk : Blk w o B ps (.cells #[c0, c1, va, vw] 34 (0, 0))
  ra : Row w o (B + 10) 28 1 va N als
  rw : Row w o (B + 11) 28 1 vw N wls
  lt : LT w o B als wls ls
  ln : ls.length = N
theorem KP.step {I : Nat → Prop} {w w' : World} {o o' : Nat → Nat} {B ps : Nat} {c0 c1 : Value} {N : Nat} {ls : List (List ByteArray)} {va vw : Value} {als wls : List Value} (h : KP w o B ps c0 c1 N ls va vw als wls) (s : Step I w o w' o') (h0 : ¬ I B) (h1 : ¬ I (B + 10)) (h2 : ¬ I (B + 11)) (hi : ∀ i, i < N → ¬ I (B + 500 + i) ∧ ¬ I (B + 600 + i)) : KP w' o' B ps c0 c1 N ls va vw als wls :=
  ⟨h.blk.step s h0, h.ra.step s h1, h.rw.step s h2, h.lt.step s (by rw [h.ln]; exact hi), h.ln⟩
/-- Which labels keeping turns. -/
def KI (B N : Nat) : Nat → Prop := fun k => k = B ∨ k = B + 10 ∨ k = B + 11 ∨ k = B + 600 + N
theorem Blk.set4c {w : World} {o : Nat → Nat} {i b : Nat} {a0 a1 a2 a3 : Value} {t : TypeId} (h : Blk w o i b (.cells #[a0, a1, a2, a3] t (0, 0))) (u : Value) : Blk (w.setCell ⟨b, 2, none⟩ u) o i b (.cells #[a0, a1, u, a3] t (0, 0)) :=
  ⟨set_blk (cs := [a0, a1, a2, a3]) (n := 2) h.1 u, h.2⟩
theorem Blk.set4d {w : World} {o : Nat → Nat} {i b : Nat} {a0 a1 a2 a3 : Value} {t : TypeId} (h : Blk w o i b (.cells #[a0, a1, a2, a3] t (0, 0))) (u : Value) : Blk (w.setCell ⟨b, 3, none⟩ u) o i b (.cells #[a0, a1, a2, u] t (0, 0)) :=
  ⟨set_blk (cs := [a0, a1, a2, a3]) (n := 3) h.1 u, h.2⟩
def KpOut (w : World) (o : Nat → Nat) (B ps : Nat) (c0 c1 : Value) (N : Nat) (ls : List (List ByteArray)) (l : List ByteArray) (v : Value) (e : Ending) (w' : World) : Prop := ∃ va vw als wls o', e = .returned (.tuple #[]) ∧ KP w' o' B ps c0 c1 (N + 1) (ls ++ [l]) va vw als wls ∧ Row w' o' (B + 500 + N) 9 1 v l.length (strsL l) ∧ Step (KI B N) w o w' o'
theorem keeps_old (w : World) (o : Nat → Nat) (B ps : Nat) (c0 c1 : Value) (N : Nat) (ls : List (List ByteArray)) (va vw : Value) (als wls : List Value) (v : Value) (h : KP w o B ps c0 c1 N ls va vw als wls) (hN : ¬ N < 40) :
    Calls Tryd.prog 27 #[.pointer (some ⟨ps, 0, none⟩), v] w fun e w' => e = .returned (.tuple #[]) ∧ w' = w := by
  obtain ⟨d0, d1, d2, d3, _⟩ := h.blk.cells4
  obtain ⟨aa, ca, rfl⟩ := h.ra.form
  have hNI : ¬ (N : Int) < 40 := by omega
  clear h
  go_enter Tryd.func27, Tryd.ntmps27
  go_wp2
  exact bodyPost_end (results_none Tryd.results27 _ _ _) rfl ⟨rfl, rfl⟩
set_option maxRecDepth 100000 in
set_option maxHeartbeats 8000000 in
theorem keeps_new (w : World) (o : Nat → Nat) (B ps : Nat) (c0 c1 : Value) (N : Nat) (ls : List (List ByteArray)) (va vw : Value) (als wls : List Value) (v : Value) (l : List ByteArray) (h : KP w o B ps c0 c1 N ls va vw als wls) (hN : N < 40) (hv : Row w o (B + 500 + N) 9 1 v l.length (strsL l)) (hl : l.length ≤ 16) :
    Calls Tryd.prog 27 #[.pointer (some ⟨ps, 0, none⟩), v] w fun e w' => KpOut w o B ps c0 c1 N ls l v e w' := by
  obtain ⟨d0, d1, d2, d3, hfd⟩ := h.blk.cells4
  obtain ⟨aa, ca, rfl⟩ := h.ra.form
  obtain ⟨aw, cw, rfl⟩ := h.rw.form
  obtain ⟨M, hM⟩ : ∃ M, M = l.length := ⟨_, rfl⟩
  have HM : Hid (M = l.length) := hM
  rw [← hM] at hv hl
  obtain ⟨al, cl, rfl⟩ := hv.form
  have hNI : (N : Int) < 40 := by omega
  have b1 : N + 1 ≤ maxLen := by unfold maxLen; omega
  have b2 : (N + 1) * 24 ≤ 140737488355328 := by omega
  have b3 : 0 + M ≤ maxLen := by unfold maxLen; omega
  have b4 : (0 + M) * 16 ≤ 140737488355328 := by omega
  obtain ⟨is, his, hzs0, hzs1, hzs2⟩ := info_parts infoStr9
  obtain ⟨it, hit, hzt0, hzt1, hzt2⟩ := info_parts infoStrs
  clear hM hfd d0 d1 d3
  go_enter Tryd.func27, Tryd.ntmps27
  go_wp2_with (first | (at_builtin; refine wpList_append_lab rfl (.tmp 14) (.tmp 16) 32 rfl 28 it (.slice none 0 0) 1 24 Tryd.underlying32 hit hzt0 hzt1 hzt2 rfl (by decide) o (B + 10) _ N als rfl (h.ra.step (allocStep (fun _ => False) _ o _) (by simp)) ⟨w.heap.size, 0, none⟩ 1 1 [.slice al M cl] rfl rfl (new_one_at (by simp) _ _) (by intro u hu; simp at hu; subst hu; rfl) (by decide) b1 b2 ?_))
  intro g5 c5 w5 o5 r5 s5
  have u5 := (allocStep (fun x => x = B + 10) w o _).trans s5
  have B5 := h.blk.step u5 (by omega)
  have s6 := setStep (fun x => x = B) w5 o5 ⟨ps, 2, none⟩ (.slice (some ⟨g5, 0, none⟩) (N + 1) c5) B5.2
  have B6 := B5.set4c (.slice (some ⟨g5, 0, none⟩) (N + 1) c5)
  have A6 := r5.step s6 (by omega)
  have W6 := (h.rw.step u5 (by omega)).step s6 (by omega)
  have hln := h.ln
  have L6 := (h.lt.step u5 (fun i hi => by omega)).step s6 (fun i hi => by omega)
  have V6 := (hv.step u5 (by omega)).step s6 (by omega)
  have S6 : Step (KI B N) w o _ o5 := (u5.mono fun k hk => (by unfold KI; omega : KI B N k)).trans (s6.mono fun k hk => (by unfold KI; omega : KI B N k))
  obtain ⟨e0, e1, e2, e3, hfe⟩ := B5.cells4
  have fe2 := hfe 2
  have HLN : Hid (ls.length = N) := hln
  clear h hv r5 s5 u5 B5 s6 d2 hfe e0 e1 e3 hln
  go_upto_region 2 with fail
  generalize w5.setCell ⟨ps, 2, none⟩ (.slice (some ⟨g5, 0, none⟩) (N + 1) c5) = w6 at B6 A6 W6 L6 V6 S6 ⊢
  generalize o5 = o6 at B6 A6 W6 L6 V6 S6
  clear e2 fe2
  have cv6 : w6.drew.cell? ⟨ps, 3, none⟩ = some (.slice aw N cw) := B6.cells4.2.2.2.1
  have HNW : Hid (0 < M → ∃ ad, al = some ad ∧ ∀ j u, (strsL l)[j]? = some u → w6.drew.cell? (ad.add j) = some u) := fun h0 => by
    obtain ⟨ad, h1, h2⟩ := V6.newsHi M (Nat.le_refl _) h0
    refine ⟨ad, h1, fun j u hu => h2 j u ?_⟩
    rw [List.take_of_length_le (by rw [strsL_len, ← HM.out]; omega)]
    exact hu
  have HX : Hid (∀ w7 o7, Step (fun k => k = B + 600 + N) w6.drew o6 w7 o7 → w7.cell? ⟨ps, 3, none⟩ = some (.slice aw N cw) ∧ Row w7 o7 (B + 11) 28 1 (.slice aw N cw) N wls) := fun w7 o7 s7' => by
    have s7 : Step (fun k => k = B + 600 + N) w6 o6 w7 o7 := (Step.refl _ w6 o6).drew.trans s7'
    exact ⟨(B6.step s7 (by omega)).cells4.2.2.2.1, W6.step s7 (by omega)⟩
  have HF : Hid (∀ w7 o7 a7 c7, Row w7 o7 (B + 600 + N) 9 1 (.slice a7 M c7) M (strsL l) → Step (fun k => k = B + 600 + N) w6.drew o6 w7 o7 → ∀ w9 o9 g9 c9, Row w9 o9 (B + 11) 28 1 (.slice (some ⟨g9, 0, none⟩) (N + 1) c9) (N + 1) (wls ++ [.slice a7 M c7]) → Step (fun k => k = B + 11) w7 o7 w9 o9 → KpOut w o B ps c0 c1 N ls l (.slice al M cl) (.returned (.tuple #[])) (w9.setCell ⟨ps, 3, none⟩ (.slice (some ⟨g9, 0, none⟩) (N + 1) c9)) ∧ w9.cell? ⟨ps, 3, none⟩ = some (.slice aw N cw) ∧ w9.frozen? ⟨ps, 3, none⟩ = false) := fun w7 o7 a7 c7 r7 s7' w9 o9 g9 c9 r9 s9 => by
    have s7 : Step (fun k => k = B + 600 + N) w6 o6 w7 o7 := (Step.refl _ w6 o6).drew.trans s7'
    have hLN := HLN.out
    have B9 := (B6.step s7 (by omega)).step s9 (by omega)
    have s10 := setStep (fun x => x = B) w9 o9 ⟨ps, 3, none⟩ (.slice (some ⟨g9, 0, none⟩) (N + 1) c9) B9.2
    have B10 := B9.set4d (.slice (some ⟨g9, 0, none⟩) (N + 1) c9)
    have A10 := ((A6.step s7 (by omega)).step s9 (by omega)).step s10 (by omega)
    have W10 := r9.step s10 (by omega)
    have L10 := ((L6.step s7 (fun i hi => by omega)).step s9 (fun i hi => by omega)).step s10 (fun i hi => by omega)
    have V10 := ((V6.step s7 (by omega)).step s9 (by omega)).step s10 (by omega)
    have q10 := (r7.step s9 (by omega)).step s10 (by omega)
    have P10 := L10.push (l := l) (va := .slice al M cl) (vw := .slice a7 M c7) (by omega) (by rw [← HM.out]; exact hl) (by rw [hLN, ← HM.out]; exact V10) (by rw [hLN, ← HM.out]; exact q10)
    exact ⟨⟨_, _, _, _, o9, rfl, ⟨B10, A10, W10, P10, by simp [hLN]⟩, by rw [← HM.out]; exact V10, ((S6.trans (s7.mono fun k hk => (by unfold KI; omega : KI B N k))).trans (s9.mono fun k hk => (by unfold KI; omega : KI B N k))).trans (s10.mono fun k hk => (by unfold KI; omega : KI B N k))⟩, B9.cells4.2.2.2.1, B9.cells4.2.2.2.2 3⟩
  clear B6 A6 W6 L6 V6 S6
  refine wp_region_noPanic ?_
  refine wp_region_held_drew (S := fun _ => True) (by kernel_rfl) trivial (fun hHeld => ?_)
  refine wpAnyH_take (i := 0) (v := ?v1) rfl (by kernel_rfl) (by kernel_rfl) (by kernel_rfl) (fun _ _ _ h => h) (Or.inl ⟨by rfl, ?hy1⟩) (by assumption) ?rest1
  case hy1 => (intro w hSw; (try dsimp only at hSw); go_simp; all_goals (with_reducible rfl))
  simp only [Act.put, List.getElem_toArray, List.getElem_cons_zero, List.getElem_cons_succ, List.setIfInBounds_toArray, List.set_cons_zero, List.set_cons_succ]
  refine wpAnyH_take (i := 1) (v := ?v2) rfl (by kernel_rfl) (by kernel_rfl) (by kernel_rfl) (fun _ _ _ h => h) (Or.inl ⟨by rfl, ?hy2⟩) (by assumption) ?rest2
  case hy2 => (intro w hSw; (try dsimp only at hSw); go_simp; all_goals (with_reducible rfl))
  simp only [Act.put, List.getElem_toArray, List.getElem_cons_zero, List.getElem_cons_succ, List.setIfInBounds_toArray, List.set_cons_zero, List.set_cons_succ]
  refine wpAnyH_take (i := 2) (v := ?v3) rfl (by kernel_rfl) (by kernel_rfl) (by kernel_rfl) (fun _ _ _ h => h) (Or.inl ⟨by rfl, ?hy3⟩) (by assumption) ?rest3
  case hy3 => (intro w hSw; (try dsimp only at hSw); go_simp; all_goals (with_reducible rfl))
  simp only [Act.put, List.getElem_toArray, List.getElem_cons_zero, List.getElem_cons_succ, List.setIfInBounds_toArray, List.set_cons_zero, List.set_cons_succ]
  refine wpAnyH_take (i := 3) (v := ?v4) rfl (by kernel_rfl) (by kernel_rfl) (by kernel_rfl) (fun _ _ _ h => h) (Or.inl ⟨by rfl, ?hy4⟩) (by assumption) ?rest4
  case hy4 => (intro w hSw; (try dsimp only at hSw); go_simp; all_goals (with_reducible rfl))
  simp only [Act.put, List.getElem_toArray, List.getElem_cons_zero, List.getElem_cons_succ, List.setIfInBounds_toArray, List.set_cons_zero, List.set_cons_succ]
  refine wpAnyH_take (i := 5) (v := ?v5) rfl (by kernel_rfl) (by kernel_rfl) (by kernel_rfl) (fun _ _ _ h => h) (Or.inl ⟨by rfl, ?hy5⟩) (by assumption) ?rest5
  case hy5 => (intro w hSw; (try dsimp only at hSw); go_simp; all_goals (with_reducible rfl))
  simp only [Act.put, List.getElem_toArray, List.getElem_cons_zero, List.getElem_cons_succ, List.setIfInBounds_toArray, List.set_cons_zero, List.set_cons_succ]
  refine wpAnyH_ready (rs := [4, 6]) (by kernel_rfl) (by simp) ?_
  refine AllReadyH.cons rfl (fun K hK => ?_) (AllReadyH.cons rfl (fun K hK => ?_) AllReadyH.nil)
  · have cvx := cv6
    go_simp
    refine hK.out _ _ trivial (fun hHeld => ?_)
    clear hK K
    try simp only [Act.put, List.getElem_toArray, List.getElem_cons_zero, List.getElem_cons_succ, List.setIfInBounds_toArray, List.set_cons_zero, List.set_cons_succ]
    refine wpAnyH_ready (rs := [6]) (by kernel_rfl) (by simp) ?_
    refine AllReadyH.cons rfl (fun K hK => ?_) AllReadyH.nil
    refine step_append_any rfl (.const (.slice none 0 0)) (.tmp 25) 28 rfl 9 is (.string ByteArray.empty) 1 16 Tryd.underlying28 his hzs0 hzs1 hzs2 rfl (by decide) o6 (B + 600 + N) _ 0 [] (by simp [Act.eval]) (Row.nil _ _ _ _ _) al M cl (strsL l) (by simp [Act.eval]) (by rw [strsL_len, ← HM.out]; omega) HNW.out (strsL_one l) b3 b4 ?_
    intro a7 c7 w7 o7 r7 s7
    try simp only [Nat.zero_add, List.nil_append] at r7
    try simp only [Nat.zero_add]
    obtain ⟨z7, y7⟩ := HX.out _ _ s7
    refine hK.out _ _ trivial (fun hHeld => ?_)
    clear hK K
    try simp only [Act.put, List.getElem_toArray, List.getElem_cons_zero, List.getElem_cons_succ, List.setIfInBounds_toArray, List.set_cons_zero, List.set_cons_succ]
    refine wpAnyH_ready (rs := [7]) (by kernel_rfl) (by simp) ?_
    refine AllReadyH.cons rfl (fun K hK => ?_) AllReadyH.nil
    go_simp
    have z8 := keep_below9 (bal (b0 w7) (.cells #[.slice a7 M c7] 28)) z7
    refine hK.out _ _ trivial (fun hHeld => ?_)
    clear hK K
    try simp only [Act.put, List.getElem_toArray, List.getElem_cons_zero, List.getElem_cons_succ, List.setIfInBounds_toArray, List.set_cons_zero, List.set_cons_succ]
    refine wpAnyH_ready (rs := [8]) (by kernel_rfl) (by simp) ?_
    refine AllReadyH.cons rfl (fun K hK => ?_) AllReadyH.nil
    refine step_append_lab rfl (.tmp 24) (.tmp 27) 32 rfl 28 it (.slice none 0 0) 1 24 Tryd.underlying32 hit hzt0 hzt1 hzt2 rfl (by decide) o7 (B + 11) _ N wls (by simp [Act.eval]) (y7.step (allocStep (fun _ => False) w7 o7 _) (by simp)) ⟨w7.heap.size, 0, none⟩ 1 1 [.slice a7 M c7] (by simp [Act.eval]) rfl (new_one_at (by simp) _ _) (by intro u hu; simp at hu; subst hu; rfl) (by decide) b1 b2 ?_
    intro g9 c9 w9 o9 r9 s9
    have s9b := (allocStep (fun x => x = B + 11) w7 o7 _).trans s9
    obtain ⟨F1, z9, f9⟩ := HF.out _ _ _ _ r7 s7 _ _ _ _ r9 s9b
    refine hK.out _ _ trivial (fun hHeld => ?_)
    clear hK K
    try simp only [Act.put, List.getElem_toArray, List.getElem_cons_zero, List.getElem_cons_succ, List.setIfInBounds_toArray, List.set_cons_zero, List.set_cons_succ]
    refine wpAnyH_take (i := 9) (v := ?v6) rfl (by kernel_rfl) (by kernel_rfl) (by kernel_rfl) (fun _ _ _ h => h) (Or.inl ⟨by rfl, ?hy6⟩) (by assumption) ?rest6
    case hy6 => (intro w hSw; (try dsimp only at hSw); go_simp; all_goals (with_reducible rfl))
    simp only [Act.put, List.getElem_toArray, List.getElem_cons_zero, List.getElem_cons_succ, List.setIfInBounds_toArray, List.set_cons_zero, List.set_cons_succ]
    refine wpAnyH_take (i := 10) (v := ?v7) rfl (by kernel_rfl) (by kernel_rfl) (by kernel_rfl) (fun _ _ _ h => h) (Or.inl ⟨by rfl, ?hy7⟩) (by assumption) ?rest7
    case hy7 => (intro w hSw; (try dsimp only at hSw); go_simp; all_goals (with_reducible rfl))
    simp only [Act.put, List.getElem_toArray, List.getElem_cons_zero, List.getElem_cons_succ, List.setIfInBounds_toArray, List.set_cons_zero, List.set_cons_succ]
    refine wpAnyH_ready (rs := [11]) (by kernel_rfl) (by simp) ?_
    refine AllReadyH.cons rfl (fun K hK => ?_) AllReadyH.nil
    go_simp
    refine hK.out _ _ trivial (fun hHeld => ?_)
    clear hK K
    try simp only [Act.put, List.getElem_toArray, List.getElem_cons_zero, List.getElem_cons_succ, List.setIfInBounds_toArray, List.set_cons_zero, List.set_cons_succ]
    refine wpAnyH_done (by kernel_rfl) ?_ _
    refine NoPanic.normal ?_
    go_wp2
    first | exact bodyPost_end (results_none Tryd.results27 _ _ _) rfl F1 | exact bodyPost_ret (results_none Tryd.results27 _ _ _) rfl F1
  · refine step_append_any rfl (.const (.slice none 0 0)) (.tmp 25) 28 rfl 9 is (.string ByteArray.empty) 1 16 Tryd.underlying28 his hzs0 hzs1 hzs2 rfl (by decide) o6 (B + 600 + N) _ 0 [] (by simp [Act.eval]) (Row.nil _ _ _ _ _) al M cl (strsL l) (by simp [Act.eval]) (by rw [strsL_len, ← HM.out]; omega) HNW.out (strsL_one l) b3 b4 ?_
    intro a7 c7 w7 o7 r7 s7
    try simp only [Nat.zero_add, List.nil_append] at r7
    try simp only [Nat.zero_add]
    obtain ⟨z7, y7⟩ := HX.out _ _ s7
    refine hK.out _ _ trivial (fun hHeld => ?_)
    clear hK K
    try simp only [Act.put, List.getElem_toArray, List.getElem_cons_zero, List.getElem_cons_succ, List.setIfInBounds_toArray, List.set_cons_zero, List.set_cons_succ]
    refine wpAnyH_ready (rs := [4, 7]) (by kernel_rfl) (by simp) ?_
    refine AllReadyH.cons rfl (fun K hK => ?_) (AllReadyH.cons rfl (fun K hK => ?_) AllReadyH.nil)
    · have cvx := z7
      go_simp
      refine hK.out _ _ trivial (fun hHeld => ?_)
      clear hK K
      try simp only [Act.put, List.getElem_toArray, List.getElem_cons_zero, List.getElem_cons_succ, List.setIfInBounds_toArray, List.set_cons_zero, List.set_cons_succ]
      refine wpAnyH_ready (rs := [7]) (by kernel_rfl) (by simp) ?_
      refine AllReadyH.cons rfl (fun K hK => ?_) AllReadyH.nil
      go_simp
      have z8 := keep_below9 (bal (b0 w7) (.cells #[.slice a7 M c7] 28)) z7
      refine hK.out _ _ trivial (fun hHeld => ?_)
      clear hK K
      try simp only [Act.put, List.getElem_toArray, List.getElem_cons_zero, List.getElem_cons_succ, List.setIfInBounds_toArray, List.set_cons_zero, List.set_cons_succ]
      refine wpAnyH_ready (rs := [8]) (by kernel_rfl) (by simp) ?_
      refine AllReadyH.cons rfl (fun K hK => ?_) AllReadyH.nil
      refine step_append_lab rfl (.tmp 24) (.tmp 27) 32 rfl 28 it (.slice none 0 0) 1 24 Tryd.underlying32 hit hzt0 hzt1 hzt2 rfl (by decide) o7 (B + 11) _ N wls (by simp [Act.eval]) (y7.step (allocStep (fun _ => False) w7 o7 _) (by simp)) ⟨w7.heap.size, 0, none⟩ 1 1 [.slice a7 M c7] (by simp [Act.eval]) rfl (new_one_at (by simp) _ _) (by intro u hu; simp at hu; subst hu; rfl) (by decide) b1 b2 ?_
      intro g9 c9 w9 o9 r9 s9
      have s9b := (allocStep (fun x => x = B + 11) w7 o7 _).trans s9
      obtain ⟨F1, z9, f9⟩ := HF.out _ _ _ _ r7 s7 _ _ _ _ r9 s9b
      refine hK.out _ _ trivial (fun hHeld => ?_)
      clear hK K
      try simp only [Act.put, List.getElem_toArray, List.getElem_cons_zero, List.getElem_cons_succ, List.setIfInBounds_toArray, List.set_cons_zero, List.set_cons_succ]
      refine wpAnyH_take (i := 9) (v := ?v8) rfl (by kernel_rfl) (by kernel_rfl) (by kernel_rfl) (fun _ _ _ h => h) (Or.inl ⟨by rfl, ?hy8⟩) (by assumption) ?rest8
      case hy8 => (intro w hSw; (try dsimp only at hSw); go_simp; all_goals (with_reducible rfl))
      simp only [Act.put, List.getElem_toArray, List.getElem_cons_zero, List.getElem_cons_succ, List.setIfInBounds_toArray, List.set_cons_zero, List.set_cons_succ]
      refine wpAnyH_take (i := 10) (v := ?v9) rfl (by kernel_rfl) (by kernel_rfl) (by kernel_rfl) (fun _ _ _ h => h) (Or.inl ⟨by rfl, ?hy9⟩) (by assumption) ?rest9
      case hy9 => (intro w hSw; (try dsimp only at hSw); go_simp; all_goals (with_reducible rfl))
      simp only [Act.put, List.getElem_toArray, List.getElem_cons_zero, List.getElem_cons_succ, List.setIfInBounds_toArray, List.set_cons_zero, List.set_cons_succ]
      refine wpAnyH_ready (rs := [11]) (by kernel_rfl) (by simp) ?_
      refine AllReadyH.cons rfl (fun K hK => ?_) AllReadyH.nil
      go_simp
      refine hK.out _ _ trivial (fun hHeld => ?_)
      clear hK K
      try simp only [Act.put, List.getElem_toArray, List.getElem_cons_zero, List.getElem_cons_succ, List.setIfInBounds_toArray, List.set_cons_zero, List.set_cons_succ]
      refine wpAnyH_done (by kernel_rfl) ?_ _
      refine NoPanic.normal ?_
      go_wp2
      first | exact bodyPost_end (results_none Tryd.results27 _ _ _) rfl F1 | exact bodyPost_ret (results_none Tryd.results27 _ _ _) rfl F1
    · go_simp
      have z8 := keep_below9 (bal (b0 w7) (.cells #[.slice a7 M c7] 28)) z7
      refine hK.out _ _ trivial (fun hHeld => ?_)
      clear hK K
      try simp only [Act.put, List.getElem_toArray, List.getElem_cons_zero, List.getElem_cons_succ, List.setIfInBounds_toArray, List.set_cons_zero, List.set_cons_succ]
      refine wpAnyH_ready (rs := [4]) (by kernel_rfl) (by simp) ?_
      refine AllReadyH.cons rfl (fun K hK => ?_) AllReadyH.nil
      have cvx := z8
      go_simp
      refine hK.out _ _ trivial (fun hHeld => ?_)
      clear hK K
      try simp only [Act.put, List.getElem_toArray, List.getElem_cons_zero, List.getElem_cons_succ, List.setIfInBounds_toArray, List.set_cons_zero, List.set_cons_succ]
      refine wpAnyH_ready (rs := [8]) (by kernel_rfl) (by simp) ?_
      refine AllReadyH.cons rfl (fun K hK => ?_) AllReadyH.nil
      refine step_append_lab rfl (.tmp 24) (.tmp 27) 32 rfl 28 it (.slice none 0 0) 1 24 Tryd.underlying32 hit hzt0 hzt1 hzt2 rfl (by decide) o7 (B + 11) _ N wls (by simp [Act.eval]) (y7.step (allocStep (fun _ => False) w7 o7 _) (by simp)) ⟨w7.heap.size, 0, none⟩ 1 1 [.slice a7 M c7] (by simp [Act.eval]) rfl (new_one_at (by simp) _ _) (by intro u hu; simp at hu; subst hu; rfl) (by decide) b1 b2 ?_
      intro g9 c9 w9 o9 r9 s9
      have s9b := (allocStep (fun x => x = B + 11) w7 o7 _).trans s9
      obtain ⟨F1, z9, f9⟩ := HF.out _ _ _ _ r7 s7 _ _ _ _ r9 s9b
      refine hK.out _ _ trivial (fun hHeld => ?_)
      clear hK K
      try simp only [Act.put, List.getElem_toArray, List.getElem_cons_zero, List.getElem_cons_succ, List.setIfInBounds_toArray, List.set_cons_zero, List.set_cons_succ]
      refine wpAnyH_take (i := 9) (v := ?v10) rfl (by kernel_rfl) (by kernel_rfl) (by kernel_rfl) (fun _ _ _ h => h) (Or.inl ⟨by rfl, ?hy10⟩) (by assumption) ?rest10
      case hy10 => (intro w hSw; (try dsimp only at hSw); go_simp; all_goals (with_reducible rfl))
      simp only [Act.put, List.getElem_toArray, List.getElem_cons_zero, List.getElem_cons_succ, List.setIfInBounds_toArray, List.set_cons_zero, List.set_cons_succ]
      refine wpAnyH_take (i := 10) (v := ?v11) rfl (by kernel_rfl) (by kernel_rfl) (by kernel_rfl) (fun _ _ _ h => h) (Or.inl ⟨by rfl, ?hy11⟩) (by assumption) ?rest11
      case hy11 => (intro w hSw; (try dsimp only at hSw); go_simp; all_goals (with_reducible rfl))
      simp only [Act.put, List.getElem_toArray, List.getElem_cons_zero, List.getElem_cons_succ, List.setIfInBounds_toArray, List.set_cons_zero, List.set_cons_succ]
      refine wpAnyH_ready (rs := [11]) (by kernel_rfl) (by simp) ?_
      refine AllReadyH.cons rfl (fun K hK => ?_) AllReadyH.nil
      go_simp
      refine hK.out _ _ trivial (fun hHeld => ?_)
      clear hK K
      try simp only [Act.put, List.getElem_toArray, List.getElem_cons_zero, List.getElem_cons_succ, List.setIfInBounds_toArray, List.set_cons_zero, List.set_cons_succ]
      refine wpAnyH_done (by kernel_rfl) ?_ _
      refine NoPanic.normal ?_
      go_wp2
      first | exact bodyPost_end (results_none Tryd.results27 _ _ _) rfl F1 | exact bodyPost_ret (results_none Tryd.results27 _ _ _) rfl F1
end Go.Proofs.YtmpkhbblakfglaaDoor
