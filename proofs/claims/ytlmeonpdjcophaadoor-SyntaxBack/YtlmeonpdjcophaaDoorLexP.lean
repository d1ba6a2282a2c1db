/- Package lex: the token of a piece, or why it is none. -/
import Derived.Test.YtlmeonpdjcophaaDoorLexN
namespace Go.Proofs.YtlmeonpdjcophaaDoor
open Go.ChangeShapes Go.WideShapes Go.ChangeAt Go.RowKit
set_option linter.unusedVariables false

/-- A token's cells. -/
abbrev tka (x : Tk) : Array Value := #[.int .i64 (x.k : Nat), .int .i64 x.n, .string ⟨x.t.toArray⟩, .int .i64 (x.a : Nat)]
/-- What token answers. -/
def outT : Sum Nat Tk → Value
  | .inl e => .tuple #[.agg #[.int .i64 0, .int .i64 0, .string ⟨#[]⟩, .int .i64 0], .int .i64 (e : Nat)]
  | .inr x => .tuple #[.agg (tka x), .int .i64 0]
theorem back_text (t : ByteArray) : (⟨t.data.toList.toArray⟩ : ByteArray) = t := by cases t; simp
theorem tok_end {fn : Func} {p u : Tmp} (h : fn.results = #[.cell p 62, .tmp u]) (tmps : Array Value) (w : World) (g : Nat) (v0 v1 v2 v3 : Value) (t : TypeId) (fr : Nat × Nat)
    (hp : tmps.getD p undef = .pointer (some ⟨g, 0, none⟩)) (hg : w.heap[g]? = some (.cells #[v0, v1, v2, v3] t fr)) :
    (results fn tmps).run Tryd.prog w = .ok (.tuple #[.agg #[v0, v1, v2, v3], tmps.getD u undef]) w := by
  rw [results_cell_tmp h, hp]
  have := run_loadVar_row (P := Tryd.prog) w g t 62 #[v0, v1, v2, v3] fr _ hg Tryd.underlying62 rfl (by kernel_rfl)
  simp [asAddr, Result.andThen, this]
theorem set4 {w : World} {b : Nat} {a0 a1 a2 a3 : Value} {t : TypeId} (v0 v1 v2 v3 : Value) (h : w.heap[b]? = some (.cells #[a0, a1, a2, a3] t (0, 0))) :
    ((((w.setCell ⟨b, 0, none⟩ v0).setCell ⟨b, 1, none⟩ v1).setCell ⟨b, 2, none⟩ v2).setCell ⟨b, 3, none⟩ v3).heap[b]? = some (.cells #[v0, v1, v2, v3] t (0, 0)) := by
  have h0 := heap_setCell_same w b 0 _ t v0 h
  have h1 := heap_setCell_same _ b 1 _ t v1 h0
  have h2 := heap_setCell_same _ b 2 _ t v2 h1
  have h3 := heap_setCell_same _ b 3 _ t v3 h2
  simpa using h3
/-- The box of a piece and the room for a token, in a world that has grown since. -/
theorem two_boxes {w w1 : World} {A B : Obj} (h : Below ((w.alloc A).alloc B).heap.size ((w.alloc A).alloc B) w1) : w1.heap[w.heap.size]? = some A ∧ w1.heap[w.heap.size + 1]? = some B ∧ Below w.heap.size w w1 := by
  refine ⟨?_, ?_, ?_⟩
  · rw [h.block _ (by simp; omega), heap_alloc_old (h := by simp)]
    exact heap_alloc_new _ _
  · rw [h.block _ (by simp)]
    exact heap_alloc2_new _ _ _
  · exact (b1 _ _).trans (((b1 _ _).mono (by simp)).trans (h.mono (by simp; omega)))
theorem b2 (w : World) (A B : Obj) : Below w.heap.size w ((w.alloc A).alloc B) := (b1 _ _).trans ((b1 _ _).mono (by simp))
theorem bset4 {w w1 : World} {b : Nat} (v0 v1 v2 v3 : Value) (h : Below w.heap.size w w1) (hb : w.heap.size ≤ b) :
    Below w.heap.size w ((((w1.setCell ⟨b, 0, none⟩ v0).setCell ⟨b, 1, none⟩ v1).setCell ⟨b, 2, none⟩ v2).setCell ⟨b, 3, none⟩ v3) :=
  ((((h.setCell (p := ⟨b, 0, none⟩) hb v0).setCell (p := ⟨b, 1, none⟩) hb v1).setCell (p := ⟨b, 2, none⟩) hb v2).setCell (p := ⟨b, 3, none⟩) hb v3)

theorem sgn_tok (t : ByteArray) (k a : Nat) (w : World) (hs : t.size ≤ maxLen) :
    Calls Tryd.prog 46 #[pcv k t a] w fun e w' => e = .returned (outT (sgnT t.data.toList a)) ∧ Below w.heap.size w w' := by
  by_cases h1 : t = ⟨#[33]⟩
  · subst h1
    have fin : sgnT (⟨#[33]⟩ : ByteArray).data.toList a = .inl 110 := rfl
    rw [fin]
    clear fin
    go_enter Tryd.func46, Tryd.ntmps46
    go_wp2
    refine bodyPost_ret (tok_end rfl _ _ (w.heap.size + 1) _ _ _ _ _ _ rfl (heap_alloc2_new _ _ _)) rfl ?_
    exact ⟨rfl, b2 _ _ _⟩
  · have n1 : (t.toList == [33]) = false := beq_eq_false_iff_ne.2 (str_nel fun e => h1 (bytes_eq.1 e))
    have fin : sgnT t.data.toList a = .inr ⟨4, 0, t.data.toList, a⟩ := by
      unfold sgnT
      rw [if_neg (fun e => h1 (bytes_eq.1 e))]
    rw [fin]
    clear fin
    go_enter Tryd.func46, Tryd.ntmps46
    go_wp2
    refine bodyPost_ret (tok_end rfl _ _ (w.heap.size + 1) _ _ _ _ _ _ rfl (heap_alloc2_new _ _ _)) rfl ?_
    exact ⟨rfl, b2 _ _ _⟩
theorem wrd_tok (t : ByteArray) (k a : Nat) (w : World) (hW : Wd w) (hs : t.size ≤ maxLen) :
    Calls Tryd.prog 44 #[pcv k t a] w fun e w' => e = .returned (outT (wrdT t.data.toList a)) ∧ Below w.heap.size w w' := by
  have hW2 : ∀ A B : Obj, Wd ((w.alloc A).alloc B) := fun A B => hW.below (b2 _ _ _)
  unfold wrdT
  cases h1 : wordB t.data.toList
  · cases h2 : nameB t.data.toList
    all_goals
      simp only [Bool.false_eq_true, if_false, if_true]
      go_enter Tryd.func44, Tryd.ntmps44
      go_wp2_with (first | (go_at_call 59; refine (word_c t _ (hW2 _ _) hs).mono ?_; rw [h1]; rintro e w1 ⟨rfl, rfl⟩) | (go_at_call 49; refine (name_c t _ (hW2 _ _) hs).mono ?_; rw [h2]; rintro e w1 ⟨rfl, hb⟩; refine Hid.out ?_))
      refine Lib.hid ?_
      obtain ⟨k1, k2, B1⟩ := two_boxes hb
      have d0 : w1.cell? ⟨w.heap.size, 1, none⟩ = some (.string t) := by rw [cell_of_row _ _ _ _ _ _ k1]; rfl
      have d1 : w1.cell? ⟨w.heap.size, 2, none⟩ = some (.int .i64 (a : Nat)) := by rw [cell_of_row _ _ _ _ _ _ k1]; rfl
      have c0 : w1.cell? ⟨w.heap.size + 1, 0, none⟩ = some (.int .i64 0) := by rw [cell_of_row _ _ _ _ _ _ k2]; rfl
      have c1 : w1.cell? ⟨w.heap.size + 1, 1, none⟩ = some (.int .i64 0) := by rw [cell_of_row _ _ _ _ _ _ k2]; rfl
      have c2 : w1.cell? ⟨w.heap.size + 1, 2, none⟩ = some (.string ⟨#[]⟩) := by rw [cell_of_row _ _ _ _ _ _ k2]; rfl
      have c3 : w1.cell? ⟨w.heap.size + 1, 3, none⟩ = some (.int .i64 0) := by rw [cell_of_row _ _ _ _ _ _ k2]; rfl
      have fz : ∀ j, w1.frozen? ⟨w.heap.size + 1, j, none⟩ = false := fun j => frozen_of_row w1 _ j _ _ k2
      have HK2 := Lib.hid k2
      clear k1 k2 hb
      go_wp2
      refine bodyPost_ret (tok_end rfl _ _ (w.heap.size + 1) _ _ _ _ _ _ rfl (set4 _ _ _ _ HK2.out)) rfl ?_
      exact ⟨by rfl, bset4 _ _ _ _ B1 (by omega)⟩
  · simp only [if_true]
    go_enter Tryd.func44, Tryd.ntmps44
    go_wp2_with (go_at_call 59; refine (word_c t _ (hW2 _ _) hs).mono ?_; rw [h1]; rintro e w1 ⟨rfl, rfl⟩)
    refine bodyPost_ret (tok_end rfl _ _ (w.heap.size + 1) _ _ _ _ _ _ rfl (heap_alloc2_new _ _ _)) rfl ?_
    exact ⟨rfl, b2 _ _ _⟩
theorem head_at (t : ByteArray) (h : 0 < t.size) : t.data.toList.head? = some t[0] := by
  have hl : 0 < t.data.toList.length := by rw [data_len]; exact h
  rw [List.head?_eq_getElem?, List.getElem?_eq_getElem hl, data_get t 0 h hl]
theorem num_tok (t : ByteArray) (k a : Nat) (w : World) (hE : Ers w) (hs : t.size ≤ 281474976710656) :
    Calls Tryd.prog 45 #[pcv k t a] w fun e w' => e = .returned (outT (numT t.data.toList a)) ∧ Below w.heap.size w w' := by
  have hE2 : ∀ A B : Obj, Ers ((w.alloc A).alloc B) := fun A B => hE.below (b2 _ _ _)
  go_enter Tryd.func45, Tryd.ntmps45
  go_wp2_with (go_at_call 60; refine (atoi_c t _ hs (hE2 _ _)).mono ?_; rintro e w1 ⟨v, ev, rfl, ho, hb⟩; refine Hid.out ?_)
  refine Lib.hid ?_
  obtain ⟨k1, k2, B1⟩ := two_boxes hb
  have d0 : w1.cell? ⟨w.heap.size, 1, none⟩ = some (.string t) := by rw [cell_of_row _ _ _ _ _ _ k1]; rfl
  have d1 : w1.cell? ⟨w.heap.size, 2, none⟩ = some (.int .i64 (a : Nat)) := by rw [cell_of_row _ _ _ _ _ _ k1]; rfl
  have c0 : w1.cell? ⟨w.heap.size + 1, 0, none⟩ = some (.int .i64 0) := by rw [cell_of_row _ _ _ _ _ _ k2]; rfl
  have c1 : w1.cell? ⟨w.heap.size + 1, 1, none⟩ = some (.int .i64 0) := by rw [cell_of_row _ _ _ _ _ _ k2]; rfl
  have c2 : w1.cell? ⟨w.heap.size + 1, 2, none⟩ = some (.string ⟨#[]⟩) := by rw [cell_of_row _ _ _ _ _ _ k2]; rfl
  have c3 : w1.cell? ⟨w.heap.size + 1, 3, none⟩ = some (.int .i64 0) := by rw [cell_of_row _ _ _ _ _ _ k2]; rfl
  have fz : ∀ j, w1.frozen? ⟨w.heap.size + 1, j, none⟩ = false := fun j => frozen_of_row w1 _ j _ _ k2
  have HK2 := Lib.hid k2
  clear k1 k2 hb
  rcases ho with ⟨hv, rfl⟩ | ⟨hn, ty, N, rfl⟩
  · have hpos : 0 < t.size := by
      by_cases h0 : t.size = 0
      · exfalso
        have e0 : t = ⟨#[]⟩ := by
          apply ByteArray.ext
          exact Array.eq_empty_of_size_eq_zero h0
        subst e0
        cases hv
      · omega
    have hh := head_at t hpos
    by_cases ht : t = ⟨#[48]⟩
    · have fin : numT t.data.toList a = .inr ⟨1, v, [], a⟩ := by
        subst ht
        unfold numT
        rw [hv]
        simp
      subst ht
      have HF := Lib.hid fin
      clear hv hh fin
      go_wp2
      refine bodyPost_ret (tok_end rfl _ _ (w.heap.size + 1) _ _ _ _ _ _ rfl (set4 _ _ _ _ HK2.out)) rfl ?_
      exact ⟨by rw [HF.out]; rfl, bset4 _ _ _ _ B1 (by omega)⟩
    · have hnl : ¬ t.data.toList = [48] := fun e => ht (bytes_eq.1 e)
      have n1 : (t.toList == [48]) = false := beq_eq_false_iff_ne.2 (str_nel hnl)
      by_cases h48 : (t[0]'hpos).toNat = 48
      · have fin : numT t.data.toList a = .inl 111 := by
          unfold numT
          rw [hv]
          simp only
          have h5 : t[0]'hpos = 48 := UInt8.toNat.inj h48
          rw [if_pos ⟨by rw [hh, h5], hnl⟩]
        have HF := Lib.hid fin
        clear hv hh fin ht hnl
        go_wp2
        refine bodyPost_ret (tok_end rfl _ _ (w.heap.size + 1) _ _ _ _ _ _ rfl (set4 _ _ _ _ HK2.out)) rfl ?_
        exact ⟨by rw [HF.out]; rfl, bset4 _ _ _ _ B1 (by omega)⟩
      · have fin : numT t.data.toList a = .inr ⟨1, v, [], a⟩ := by
          unfold numT
          rw [hv]
          simp only
          rw [if_neg]
          rintro ⟨h, _⟩
          rw [hh] at h
          injection h with h
          rw [h] at h48
          exact h48 rfl
        have h48I : ¬ ((t[0]'hpos).toNat : Int) = 48 := by omega
        have HF := Lib.hid fin
        clear hv hh fin ht hnl h48
        go_wp2
        refine bodyPost_ret (tok_end rfl _ _ (w.heap.size + 1) _ _ _ _ _ _ rfl (set4 _ _ _ _ HK2.out)) rfl ?_
        exact ⟨by rw [HF.out]; rfl, bset4 _ _ _ _ B1 (by omega)⟩
  · have fin : numT t.data.toList a = .inl 111 := by
      unfold numT
      split
      · rename_i u hu
        exact absurd hu (hn u)
      · rfl
    have HF := Lib.hid fin
    clear hn fin
    go_wp2
    refine bodyPost_ret (tok_end rfl _ _ (w.heap.size + 1) _ _ _ _ _ _ rfl (set4 _ _ _ _ HK2.out)) rfl ?_
    exact ⟨by rw [HF.out]; rfl, bset4 _ _ _ _ B1 (by omega)⟩
theorem token_1 (t : ByteArray) (a : Nat) (w : World) (hW : Wd w) (hE : Ers w) (hs : t.size ≤ 2000) :
    Calls Tryd.prog 26 #[pcv 1 t a] w fun e w' => e = .returned (outT (ptok 1 t.data.toList a)) ∧ Below w.heap.size w w' := by
  have hW2 : ∀ A B : Obj, Wd ((w.alloc A).alloc B) := fun A B => hW.below (b2 _ _ _)
  have hE2 : ∀ A B : Obj, Ers ((w.alloc A).alloc B) := fun A B => hE.below (b2 _ _ _)
  have hm : t.size ≤ maxLen := by unfold maxLen; omega
  have hq : t.size ≤ 281474976710656 := by omega
  have fin : ptok 1 t.data.toList a = wrdT t.data.toList a := rfl
  rw [fin]
  clear fin
  go_enter Tryd.func26, Tryd.ntmps26
  go_wp2_with (go_at_call 44; refine (wrd_tok t _ a _ (hW2 _ _) hm).mono ?_; rintro e w1 ⟨rfl, hb⟩; refine Hid.out ?_)
  refine Lib.hid ?_
  obtain ⟨k1, k2, B1⟩ := two_boxes hb
  have c0 : w1.cell? ⟨w.heap.size + 1, 0, none⟩ = some (.int .i64 0) := by rw [cell_of_row _ _ _ _ _ _ k2]; rfl
  have c1 : w1.cell? ⟨w.heap.size + 1, 1, none⟩ = some (.int .i64 0) := by rw [cell_of_row _ _ _ _ _ _ k2]; rfl
  have c2 : w1.cell? ⟨w.heap.size + 1, 2, none⟩ = some (.string ⟨#[]⟩) := by rw [cell_of_row _ _ _ _ _ _ k2]; rfl
  have c3 : w1.cell? ⟨w.heap.size + 1, 3, none⟩ = some (.int .i64 0) := by rw [cell_of_row _ _ _ _ _ _ k2]; rfl
  have fz : ∀ j, w1.frozen? ⟨w.heap.size + 1, j, none⟩ = false := fun j => frozen_of_row w1 _ j _ _ k2
  have HK2 := Lib.hid k2
  clear k1 k2 hb
  obtain ⟨X, hX⟩ : ∃ X, X = wrdT t.data.toList a := ⟨_, rfl⟩
  rw [← hX]
  have HX := Lib.hid hX
  clear hX
  cases X with
  | inl er =>
    simp only [outT]
    go_wp2
    refine bodyPost_ret (tok_end rfl _ _ (w.heap.size + 1) _ _ _ _ _ _ rfl (set4 _ _ _ _ HK2.out)) rfl ?_
    exact ⟨by rw [← HX.out]; rfl, bset4 _ _ _ _ B1 (by omega)⟩
  | inr x =>
    obtain ⟨xk, xn, xt, xa⟩ := x
    simp only [outT, tka]
    go_wp2
    refine bodyPost_ret (tok_end rfl _ _ (w.heap.size + 1) _ _ _ _ _ _ rfl (set4 _ _ _ _ HK2.out)) rfl ?_
    exact ⟨by rw [← HX.out]; rfl, bset4 _ _ _ _ B1 (by omega)⟩
theorem token_2 (t : ByteArray) (a : Nat) (w : World) (hW : Wd w) (hE : Ers w) (hs : t.size ≤ 2000) :
    Calls Tryd.prog 26 #[pcv 2 t a] w fun e w' => e = .returned (outT (ptok 2 t.data.toList a)) ∧ Below w.heap.size w w' := by
  have hW2 : ∀ A B : Obj, Wd ((w.alloc A).alloc B) := fun A B => hW.below (b2 _ _ _)
  have hE2 : ∀ A B : Obj, Ers ((w.alloc A).alloc B) := fun A B => hE.below (b2 _ _ _)
  have hm : t.size ≤ maxLen := by unfold maxLen; omega
  have hq : t.size ≤ 281474976710656 := by omega
  have fin : ptok 2 t.data.toList a = numT t.data.toList a := rfl
  rw [fin]
  clear fin
  go_enter Tryd.func26, Tryd.ntmps26
  go_wp2_with (go_at_call 45; refine (num_tok t _ a _ (hE2 _ _) hq).mono ?_; rintro e w1 ⟨rfl, hb⟩; refine Hid.out ?_)
  refine Lib.hid ?_
  obtain ⟨k1, k2, B1⟩ := two_boxes hb
  have c0 : w1.cell? ⟨w.heap.size + 1, 0, none⟩ = some (.int .i64 0) := by rw [cell_of_row _ _ _ _ _ _ k2]; rfl
  have c1 : w1.cell? ⟨w.heap.size + 1, 1, none⟩ = some (.int .i64 0) := by rw [cell_of_row _ _ _ _ _ _ k2]; rfl
  have c2 : w1.cell? ⟨w.heap.size + 1, 2, none⟩ = some (.string ⟨#[]⟩) := by rw [cell_of_row _ _ _ _ _ _ k2]; rfl
  have c3 : w1.cell? ⟨w.heap.size + 1, 3, none⟩ = some (.int .i64 0) := by rw [cell_of_row _ _ _ _ _ _ k2]; rfl
  have fz : ∀ j, w1.frozen? ⟨w.heap.size + 1, j, none⟩ = false := fun j => frozen_of_row w1 _ j _ _ k2
  have HK2 := Lib.hid k2
  clear k1 k2 hb
  obtain ⟨X, hX⟩ : ∃ X, X = numT t.data.toList a := ⟨_, rfl⟩
  rw [← hX]
  have HX := Lib.hid hX
  clear hX
  cases X with
  | inl er =>
    simp only [outT]
    go_wp2
    refine bodyPost_ret (tok_end rfl _ _ (w.heap.size + 1) _ _ _ _ _ _ rfl (set4 _ _ _ _ HK2.out)) rfl ?_
    exact ⟨by rw [← HX.out]; rfl, bset4 _ _ _ _ B1 (by omega)⟩
  | inr x =>
    obtain ⟨xk, xn, xt, xa⟩ := x
    simp only [outT, tka]
    go_wp2
    refine bodyPost_ret (tok_end rfl _ _ (w.heap.size + 1) _ _ _ _ _ _ rfl (set4 _ _ _ _ HK2.out)) rfl ?_
    exact ⟨by rw [← HX.out]; rfl, bset4 _ _ _ _ B1 (by omega)⟩
theorem token_3 (t : ByteArray) (a : Nat) (w : World) (hW : Wd w) (hE : Ers w) (hs : t.size ≤ 2000) :
    Calls Tryd.prog 26 #[pcv 3 t a] w fun e w' => e = .returned (outT (ptok 3 t.data.toList a)) ∧ Below w.heap.size w w' := by
  have hW2 : ∀ A B : Obj, Wd ((w.alloc A).alloc B) := fun A B => hW.below (b2 _ _ _)
  have hE2 : ∀ A B : Obj, Ers ((w.alloc A).alloc B) := fun A B => hE.below (b2 _ _ _)
  have hm : t.size ≤ maxLen := by unfold maxLen; omega
  have hq : t.size ≤ 281474976710656 := by omega
  have fin : ptok 3 t.data.toList a = sgnT t.data.toList a := rfl
  rw [fin]
  clear fin
  go_enter Tryd.func26, Tryd.ntmps26
  go_wp2_with (go_at_call 46; refine (sgn_tok t _ a _ hm).mono ?_; rintro e w1 ⟨rfl, hb⟩; refine Hid.out ?_)
  refine Lib.hid ?_
  obtain ⟨k1, k2, B1⟩ := two_boxes hb
  have c0 : w1.cell? ⟨w.heap.size + 1, 0, none⟩ = some (.int .i64 0) := by rw [cell_of_row _ _ _ _ _ _ k2]; rfl
  have c1 : w1.cell? ⟨w.heap.size + 1, 1, none⟩ = some (.int .i64 0) := by rw [cell_of_row _ _ _ _ _ _ k2]; rfl
  have c2 : w1.cell? ⟨w.heap.size + 1, 2, none⟩ = some (.string ⟨#[]⟩) := by rw [cell_of_row _ _ _ _ _ _ k2]; rfl
  have c3 : w1.cell? ⟨w.heap.size + 1, 3, none⟩ = some (.int .i64 0) := by rw [cell_of_row _ _ _ _ _ _ k2]; rfl
  have fz : ∀ j, w1.frozen? ⟨w.heap.size + 1, j, none⟩ = false := fun j => frozen_of_row w1 _ j _ _ k2
  have HK2 := Lib.hid k2
  clear k1 k2 hb
  obtain ⟨X, hX⟩ : ∃ X, X = sgnT t.data.toList a := ⟨_, rfl⟩
  rw [← hX]
  have HX := Lib.hid hX
  clear hX
  cases X with
  | inl er =>
    simp only [outT]
    go_wp2
    refine bodyPost_ret (tok_end rfl _ _ (w.heap.size + 1) _ _ _ _ _ _ rfl (set4 _ _ _ _ HK2.out)) rfl ?_
    exact ⟨by rw [← HX.out]; rfl, bset4 _ _ _ _ B1 (by omega)⟩
  | inr x =>
    obtain ⟨xk, xn, xt, xa⟩ := x
    simp only [outT, tka]
    go_wp2
    refine bodyPost_ret (tok_end rfl _ _ (w.heap.size + 1) _ _ _ _ _ _ rfl (set4 _ _ _ _ HK2.out)) rfl ?_
    exact ⟨by rw [← HX.out]; rfl, bset4 _ _ _ _ B1 (by omega)⟩
theorem token_4 (t : ByteArray) (a : Nat) (w : World) :
    Calls Tryd.prog 26 #[pcv 4 t a] w fun e w' => e = .returned (outT (ptok 4 t.data.toList a)) ∧ Below w.heap.size w w' := by
  have fin : ptok 4 t.data.toList a = .inl 110 := rfl
  rw [fin]
  clear fin
  go_enter Tryd.func26, Tryd.ntmps26
  go_wp2
  refine bodyPost_ret (tok_end rfl _ _ (w.heap.size + 1) _ _ _ _ _ _ rfl (heap_alloc2_new _ _ _)) rfl ?_
  exact ⟨rfl, b2 _ _ _⟩
theorem token_c (k : Nat) (t : ByteArray) (a : Nat) (w : World) (hW : Wd w) (hE : Ers w) (hk : k ≤ 4) (h0 : 0 < k) (hs : t.size ≤ 2000) :
    Calls Tryd.prog 26 #[pcv k t a] w fun e w' => e = .returned (outT (ptok k t.data.toList a)) ∧ Below w.heap.size w w' := by
  match k, hk, h0 with
  | 1, _, _ => exact token_1 t a w hW hE hs
  | 2, _, _ => exact token_2 t a w hW hE hs
  | 3, _, _ => exact token_3 t a w hW hE hs
  | 4, _, _ => exact token_4 t a w
end Go.Proofs.YtlmeonpdjcophaaDoor
