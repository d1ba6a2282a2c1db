/- isthmusref11: the token that begins at a place. -/
import Derived.Test.YtafnlhnenmpfoaaDoorLexO
namespace Go.Proofs.YtafnlhnenmpfoaaDoor
open Go.ChangeShapes Go.WideShapes Go.ChangeAt Go.RowKit
set_option linter.unusedVariables false

theorem seg_ext (s : ByteArray) (at0 e : Nat) (h0 : at0 < e) (h1 : e ≤ s.size) : (s.extract at0 e).data.toList = (s.data.toList.drop at0).take (e - at0) ∧ (s.extract at0 e).size = e - at0 := by
  refine ⟨ext_list s at0 e, ?_⟩
  rw [← data_len, ext_list]
  exact seg_len _ _ _ h0 (by rw [data_len]; exact h1)
theorem seg_digs (l : List UInt8) (at0 e : Nat) (h1 : e ≤ l.length) (hin : ∀ j (h : j < l.length), at0 ≤ j → j < e → tks 2 [] (l[j]).toNat = true) : Digs ((l.drop at0).take (e - at0)) := by
  intro c hc
  obtain ⟨j, hj, rfl⟩ := List.mem_iff_getElem.1 hc
  have hj' : j < e - at0 := by simp at hj; omega
  rw [List.getElem_take, List.getElem_drop]
  have hjl : at0 + j < l.length := by omega
  have := hin (at0 + j) hjl (by omega) (by omega)
  simpa [tks, dig] using this
theorem cls_dig {r : Nat} (h1 : blk r = false) (h3 : dig r = true) : cls r = 2 := by
  have h2 : ltr r = false := by
    simp [dig] at h3
    simp [ltr, sml]
    omega
  simp [cls, h1, h2, h3]
theorem cls_ltr {r : Nat} (h1 : blk r = false) (h2 : ltr r = true) : cls r = 1 := by simp [cls, h1, h2]
set_option maxHeartbeats 1000000 in
theorem token_num (s : ByteArray) (at0 : Nat) (w : World) (hat : at0 < s.size) (hs : s.size ≤ 2000) (hb : blk (s[at0]).toNat = false) (hd : dig (s[at0]).toNat = true) :
    Calls Tryd.prog 45 #[.string s, .int .i64 (at0 : Nat)] w fun e w' => TokPost s.data.toList at0 e ∧ Below w.heap.size w w' := by
  have HL : Hid (s.data.toList.length = s.size) := data_len s
  have hb0 : (s[at0]'hat).toNat < 256 := UInt8.toNat_lt _
  have hatI : (at0 : Int) < (s.size : Int) := by omega
  have hal : at0 < s.data.toList.length := by rw [HL.out]; exact hat
  have HC : Hid (cls (s.data.toList[at0]'hal).toNat = 2) := by rw [data_get s at0 hat hal]; exact cls_dig hb hd
  go_enter Tryd.func45, Tryd.ntmps45
  go_wp2_with (first | (go_at_call 72; refine (dig_r _ _ hb0).mono ?_; rw [hd]; rintro e w1 ⟨rfl, rfl⟩) | (go_at_call 73; refine (ends_2 s at0 _ hat hs hd).mono ?_; rintro e w1 ⟨e0, rfl, hE, rfl⟩; refine Hid.out ?_))
  refine Lib.hid ?_
  obtain ⟨h1, h2, h3, h4⟩ := hE
  rw [HL.out] at h2
  obtain ⟨hx1, hx2⟩ := seg_ext s at0 e0 h1 h2
  have hsr := seg_read s.data.toList 2 at0 e0 (.inr rfl) h1 (by rw [HL.out]; exact h2) HC.out h3 h4
  have hdg := seg_digs s.data.toList at0 e0 (by rw [HL.out]; exact h2) h3
  have HSR := Lib.hid hsr
  have hI1 : (at0 : Int) ≤ (e0 : Int) := by omega
  have hI2 : (e0 : Int) ≤ (s.size : Int) := by omega
  rw [← hx1] at hdg
  have HX := Lib.hid hx1
  have hz1 : 0 < (s.extract at0 e0).size := by omega
  have hz2 : (s.extract at0 e0).size ≤ 2000 := by omega
  clear hsr h3 h4 hx1 hx2
  go_wp2_with (go_at_call 74; refine (number_r _ _ hz1 hz2 hdg).mono ?_; rintro e w2 ⟨⟨v, b, rfl, ho⟩, rfl⟩; refine Hid.out ?_)
  refine Lib.hid ?_
  rw [HX.out] at ho
  clear hdg hz1 hz2
  rcases ho with ⟨rfl, hn⟩ | ⟨rfl, rfl, hn⟩
  · have HP : Hid (TokPost s.data.toList at0 (.returned (.tuple #[.agg #[.int .i64 1, .int .i64 v, .string ⟨#[]⟩, .int .i64 (at0 : Nat)], .int .i64 (e0 : Nat), .int .i64 0]))) := by
      refine .inr ⟨⟨1, v, [], at0⟩, e0, rfl, h1, by rw [HL.out]; exact h2, ?_⟩
      rw [HSR.out]
      unfold shutP
      rw [if_neg (by omega)]
      show (match numT _ at0 with | .inl e => _ | .inr x => _) = _
      rw [hn at0]
    clear hn
    go_wp2
    refine bodyPost_ret (tok3_end rfl _ _ w.heap.size _ _ _ _ _ _ rfl (heap_alloc_new _ _)) rfl ?_
    exact ⟨HP.out, b1 _ _⟩
  · have HP : Hid (TokPost s.data.toList at0 (.returned (.tuple #[.agg #[.int .i64 0, .int .i64 0, .string ⟨#[]⟩, .int .i64 0], .int .i64 0, .int .i64 111]))) := by
      refine .inl ⟨111, rfl, ?_, by omega⟩
      rw [HSR.out]
      unfold shutP
      rw [if_neg (by omega)]
      show (match numT _ at0 with | .inl e => _ | .inr x => _) = _
      rw [hn at0]
    clear hn
    go_wp2
    refine bodyPost_ret (tok3_end rfl _ _ w.heap.size _ _ _ _ _ _ rfl (heap_alloc_new _ _)) rfl ?_
    exact ⟨HP.out, b1 _ _⟩
set_option maxHeartbeats 1000000 in
theorem token_wordS (s : ByteArray) (at0 : Nat) (w : World) (hat : at0 < s.size) (hs : s.size ≤ 2000) (hb : blk (s[at0]).toNat = false) (hd : dig (s[at0]).toNat = false) (hsm : sml (s[at0]).toNat = true) :
    Calls Tryd.prog 45 #[.string s, .int .i64 (at0 : Nat)] w fun e w' => TokPost s.data.toList at0 e ∧ Below w.heap.size w w' := by
  have HL : Hid (s.data.toList.length = s.size) := data_len s
  have hb0 : (s[at0]'hat).toNat < 256 := UInt8.toNat_lt _
  have hatI : (at0 : Int) < (s.size : Int) := by omega
  have hal : at0 < s.data.toList.length := by rw [HL.out]; exact hat
  have hl : ltr (s[at0]'hat).toNat = true := by simp [ltr, hsm]
  have HC : Hid (cls (s.data.toList[at0]'hal).toNat = 1) := by rw [data_get s at0 hat hal]; exact cls_ltr hb hl
  go_enter Tryd.func45, Tryd.ntmps45
  go_wp2_with (first | (go_at_call 72; refine (dig_r _ _ hb0).mono ?_; rw [hd]; rintro e w1 ⟨rfl, rfl⟩) | (go_at_call 75; refine (sml_r _ _ hb0).mono ?_; rw [hsm]; rintro e w1 ⟨rfl, rfl⟩) | (go_at_call 73; refine (ends_1 s at0 _ hat hs hd hl).mono ?_; rintro e w1 ⟨e0, rfl, hE, rfl⟩; refine Hid.out ?_))
  refine Lib.hid ?_
  obtain ⟨h1, h2, h3, h4⟩ := hE
  rw [HL.out] at h2
  obtain ⟨hx1, hx2⟩ := seg_ext s at0 e0 h1 h2
  have hsr := seg_read s.data.toList 1 at0 e0 (.inl rfl) h1 (by rw [HL.out]; exact h2) HC.out h3 h4
  have HSR := Lib.hid hsr
  have hI1 : (at0 : Int) ≤ (e0 : Int) := by omega
  have hI2 : (e0 : Int) ≤ (s.size : Int) := by omega
  have HX := Lib.hid hx1
  have hz2 : (s.extract at0 e0).size ≤ maxLen := by unfold maxLen; omega
  clear hsr h3 h4 hx1 hx2
  go_wp2_with (go_at_call 77; refine (word_r _ _ hz2).mono ?_; rw [HX.out]; rintro e w2 ⟨rfl, hb2⟩; refine Hid.out ?_)
  refine Lib.hid ?_
  obtain ⟨k2, B2⟩ := one_box hb2
  clear hb2
  have HY : Hid (∀ x, wrdT ((s.data.toList.drop at0).take (e0 - at0)) at0 = .inr x → lexL 0 [] at0 at0 (s.data.toList.drop at0) = consR x (lexL 0 [] e0 e0 (s.data.toList.drop e0))) := fun x h => by
    rw [HSR.out]
    unfold shutP
    rw [if_neg (by omega)]
    show (match wrdT _ at0 with | .inl e => _ | .inr x => _) = _
    rw [h]
  have HN : Hid (∀ e, wrdT ((s.data.toList.drop at0).take (e0 - at0)) at0 = .inl e → lexL 0 [] at0 at0 (s.data.toList.drop at0) = .inl (e, at0)) := fun x h => by
    rw [HSR.out]
    unfold shutP
    rw [if_neg (by omega)]
    show (match wrdT _ at0 with | .inl e => _ | .inr x => _) = _
    rw [h]
  have hbt : (⟨((s.data.toList.drop at0).take (e0 - at0)).toArray⟩ : ByteArray) = s.extract at0 e0 := (ext_eq s at0 e0).symm
  cases hw : wordB ((s.data.toList.drop at0).take (e0 - at0))
  · have hn0 : B2 = B2 := rfl
    have hk2 := Lib.hid k2
    go_wp2_with (go_at_call 78; refine (name_r _ _ hz2).mono ?_; rw [HX.out]; rintro e w3 ⟨rfl, hb3⟩; refine Hid.out ?_)
    refine Lib.hid ?_
    have k3 : w3.heap[w.heap.size]? = some (.cells #[.int .i64 0, .int .i64 0, .string ⟨#[]⟩, .int .i64 0] 54 (0, 0)) := by
      rw [hb3.block _ (lt_of_block hk2.out)]
      exact hk2.out
    have B3 := B2.trans (hb3.mono B2.size)
    clear hb3 k2 hk2 B2 hn0
    have c0 : w3.cell? ⟨w.heap.size, 0, none⟩ = some (.int .i64 0) := by rw [cell_of_row _ _ _ _ _ _ k3]; rfl
    have c1 : w3.cell? ⟨w.heap.size, 1, none⟩ = some (.int .i64 0) := by rw [cell_of_row _ _ _ _ _ _ k3]; rfl
    have c2 : w3.cell? ⟨w.heap.size, 2, none⟩ = some (.string ⟨#[]⟩) := by rw [cell_of_row _ _ _ _ _ _ k3]; rfl
    have c3 : w3.cell? ⟨w.heap.size, 3, none⟩ = some (.int .i64 0) := by rw [cell_of_row _ _ _ _ _ _ k3]; rfl
    have fz : ∀ j, w3.frozen? ⟨w.heap.size, j, none⟩ = false := fun j => frozen_of_row w3 _ j _ _ k3
    have HK2 := Lib.hid k3
    clear k3
    cases hn : nameB ((s.data.toList.drop at0).take (e0 - at0))
    · have HP : Hid (TokPost s.data.toList at0 (.returned (.tuple #[.agg #[.int .i64 0, .int .i64 0, .string ⟨#[]⟩, .int .i64 0], .int .i64 0, .int .i64 112]))) := by
        refine .inl ⟨112, rfl, HN.out 112 ?_, by omega⟩
        unfold wrdT
        rw [hw, hn]
        rfl
      clear hw hn hbt
      go_wp2
      refine bodyPost_ret (tok3_end rfl _ _ w.heap.size _ _ _ _ _ _ rfl (set4 _ _ _ _ HK2.out)) rfl ?_
      exact ⟨HP.out, bset4 _ _ _ _ B3 (by omega)⟩
    · have HP : Hid (TokPost s.data.toList at0 (.returned (.tuple #[.agg #[.int .i64 2, .int .i64 0, .string (s.extract at0 e0), .int .i64 (at0 : Nat)], .int .i64 (e0 : Nat), .int .i64 0]))) := by
        refine .inr ⟨⟨2, 0, (s.data.toList.drop at0).take (e0 - at0), at0⟩, e0, by simp only [tka, hbt]; rfl, h1, by rw [HL.out]; exact h2, HY.out _ ?_⟩
        unfold wrdT
        rw [hw, hn]
        rfl
      clear hw hn hbt
      go_wp2
      refine bodyPost_ret (tok3_end rfl _ _ w.heap.size _ _ _ _ _ _ rfl (set4 _ _ _ _ HK2.out)) rfl ?_
      exact ⟨HP.out, bset4 _ _ _ _ B3 (by omega)⟩
  · have HP : Hid (TokPost s.data.toList at0 (.returned (.tuple #[.agg #[.int .i64 3, .int .i64 0, .string (s.extract at0 e0), .int .i64 (at0 : Nat)], .int .i64 (e0 : Nat), .int .i64 0]))) := by
      refine .inr ⟨⟨3, 0, (s.data.toList.drop at0).take (e0 - at0), at0⟩, e0, by simp only [tka, hbt]; rfl, h1, by rw [HL.out]; exact h2, HY.out _ ?_⟩
      unfold wrdT
      rw [hw]
      rfl
    have c0 : w2.cell? ⟨w.heap.size, 0, none⟩ = some (.int .i64 0) := by rw [cell_of_row _ _ _ _ _ _ k2]; rfl
    have c1 : w2.cell? ⟨w.heap.size, 1, none⟩ = some (.int .i64 0) := by rw [cell_of_row _ _ _ _ _ _ k2]; rfl
    have c2 : w2.cell? ⟨w.heap.size, 2, none⟩ = some (.string ⟨#[]⟩) := by rw [cell_of_row _ _ _ _ _ _ k2]; rfl
    have c3 : w2.cell? ⟨w.heap.size, 3, none⟩ = some (.int .i64 0) := by rw [cell_of_row _ _ _ _ _ _ k2]; rfl
    have fz : ∀ j, w2.frozen? ⟨w.heap.size, j, none⟩ = false := fun j => frozen_of_row w2 _ j _ _ k2
    have HK2 := Lib.hid k2
    clear k2
    clear hw hbt
    go_wp2
    refine bodyPost_ret (tok3_end rfl _ _ w.heap.size _ _ _ _ _ _ rfl (set4 _ _ _ _ HK2.out)) rfl ?_
    exact ⟨HP.out, bset4 _ _ _ _ B2 (by omega)⟩
set_option maxHeartbeats 1000000 in
theorem token_wordG (s : ByteArray) (at0 : Nat) (w : World) (hat : at0 < s.size) (hs : s.size ≤ 2000) (hb : blk (s[at0]).toNat = false) (hd : dig (s[at0]).toNat = false) (hsm : sml (s[at0]).toNat = false) (hgr : grt (s[at0]).toNat = true) :
    Calls Tryd.prog 45 #[.string s, .int .i64 (at0 : Nat)] w fun e w' => TokPost s.data.toList at0 e ∧ Below w.heap.size w w' := by
  have HL : Hid (s.data.toList.length = s.size) := data_len s
  have hb0 : (s[at0]'hat).toNat < 256 := UInt8.toNat_lt _
  have hatI : (at0 : Int) < (s.size : Int) := by omega
  have hal : at0 < s.data.toList.length := by rw [HL.out]; exact hat
  have hl : ltr (s[at0]'hat).toNat = true := by rw [ltr_grt, hsm, hgr]; rfl
  have HC : Hid (cls (s.data.toList[at0]'hal).toNat = 1) := by rw [data_get s at0 hat hal]; exact cls_ltr hb hl
  go_enter Tryd.func45, Tryd.ntmps45
  go_wp2_with (first | (go_at_call 72; refine (dig_r _ _ hb0).mono ?_; rw [hd]; rintro e w1 ⟨rfl, rfl⟩) | (go_at_call 75; refine (sml_r _ _ hb0).mono ?_; rw [hsm]; rintro e w1 ⟨rfl, rfl⟩) | (go_at_call 76; refine (grt_r _ _ hb0).mono ?_; rw [hgr]; rintro e w1 ⟨rfl, rfl⟩) | (go_at_call 73; refine (ends_1 s at0 _ hat hs hd hl).mono ?_; rintro e w1 ⟨e0, rfl, hE, rfl⟩; refine Hid.out ?_))
  refine Lib.hid ?_
  obtain ⟨h1, h2, h3, h4⟩ := hE
  rw [HL.out] at h2
  obtain ⟨hx1, hx2⟩ := seg_ext s at0 e0 h1 h2
  have hsr := seg_read s.data.toList 1 at0 e0 (.inl rfl) h1 (by rw [HL.out]; exact h2) HC.out h3 h4
  have HSR := Lib.hid hsr
  have hI1 : (at0 : Int) ≤ (e0 : Int) := by omega
  have hI2 : (e0 : Int) ≤ (s.size : Int) := by omega
  have HX := Lib.hid hx1
  have hz2 : (s.extract at0 e0).size ≤ maxLen := by unfold maxLen; omega
  clear hsr h3 h4 hx1 hx2
  go_wp2_with (go_at_call 77; refine (word_r _ _ hz2).mono ?_; rw [HX.out]; rintro e w2 ⟨rfl, hb2⟩; refine Hid.out ?_)
  refine Lib.hid ?_
  obtain ⟨k2, B2⟩ := one_box hb2
  clear hb2
  have HY : Hid (∀ x, wrdT ((s.data.toList.drop at0).take (e0 - at0)) at0 = .inr x → lexL 0 [] at0 at0 (s.data.toList.drop at0) = consR x (lexL 0 [] e0 e0 (s.data.toList.drop e0))) := fun x h => by
    rw [HSR.out]
    unfold shutP
    rw [if_neg (by omega)]
    show (match wrdT _ at0 with | .inl e => _ | .inr x => _) = _
    rw [h]
  have HN : Hid (∀ e, wrdT ((s.data.toList.drop at0).take (e0 - at0)) at0 = .inl e → lexL 0 [] at0 at0 (s.data.toList.drop at0) = .inl (e, at0)) := fun x h => by
    rw [HSR.out]
    unfold shutP
    rw [if_neg (by omega)]
    show (match wrdT _ at0 with | .inl e => _ | .inr x => _) = _
    rw [h]
  have hbt : (⟨((s.data.toList.drop at0).take (e0 - at0)).toArray⟩ : ByteArray) = s.extract at0 e0 := (ext_eq s at0 e0).symm
  cases hw : wordB ((s.data.toList.drop at0).take (e0 - at0))
  · have hn0 : B2 = B2 := rfl
    have hk2 := Lib.hid k2
    go_wp2_with (go_at_call 78; refine (name_r _ _ hz2).mono ?_; rw [HX.out]; rintro e w3 ⟨rfl, hb3⟩; refine Hid.out ?_)
    refine Lib.hid ?_
    have k3 : w3.heap[w.heap.size]? = some (.cells #[.int .i64 0, .int .i64 0, .string ⟨#[]⟩, .int .i64 0] 54 (0, 0)) := by
      rw [hb3.block _ (lt_of_block hk2.out)]
      exact hk2.out
    have B3 := B2.trans (hb3.mono B2.size)
    clear hb3 k2 hk2 B2 hn0
    have c0 : w3.cell? ⟨w.heap.size, 0, none⟩ = some (.int .i64 0) := by rw [cell_of_row _ _ _ _ _ _ k3]; rfl
    have c1 : w3.cell? ⟨w.heap.size, 1, none⟩ = some (.int .i64 0) := by rw [cell_of_row _ _ _ _ _ _ k3]; rfl
    have c2 : w3.cell? ⟨w.heap.size, 2, none⟩ = some (.string ⟨#[]⟩) := by rw [cell_of_row _ _ _ _ _ _ k3]; rfl
    have c3 : w3.cell? ⟨w.heap.size, 3, none⟩ = some (.int .i64 0) := by rw [cell_of_row _ _ _ _ _ _ k3]; rfl
    have fz : ∀ j, w3.frozen? ⟨w.heap.size, j, none⟩ = false := fun j => frozen_of_row w3 _ j _ _ k3
    have HK2 := Lib.hid k3
    clear k3
    cases hn : nameB ((s.data.toList.drop at0).take (e0 - at0))
    · have HP : Hid (TokPost s.data.toList at0 (.returned (.tuple #[.agg #[.int .i64 0, .int .i64 0, .string ⟨#[]⟩, .int .i64 0], .int .i64 0, .int .i64 112]))) := by
        refine .inl ⟨112, rfl, HN.out 112 ?_, by omega⟩
        unfold wrdT
        rw [hw, hn]
        rfl
      clear hw hn hbt
      go_wp2
      refine bodyPost_ret (tok3_end rfl _ _ w.heap.size _ _ _ _ _ _ rfl (set4 _ _ _ _ HK2.out)) rfl ?_
      exact ⟨HP.out, bset4 _ _ _ _ B3 (by omega)⟩
    · have HP : Hid (TokPost s.data.toList at0 (.returned (.tuple #[.agg #[.int .i64 2, .int .i64 0, .string (s.extract at0 e0), .int .i64 (at0 : Nat)], .int .i64 (e0 : Nat), .int .i64 0]))) := by
        refine .inr ⟨⟨2, 0, (s.data.toList.drop at0).take (e0 - at0), at0⟩, e0, by simp only [tka, hbt]; rfl, h1, by rw [HL.out]; exact h2, HY.out _ ?_⟩
        unfold wrdT
        rw [hw, hn]
        rfl
      clear hw hn hbt
      go_wp2
      refine bodyPost_ret (tok3_end rfl _ _ w.heap.size _ _ _ _ _ _ rfl (set4 _ _ _ _ HK2.out)) rfl ?_
      exact ⟨HP.out, bset4 _ _ _ _ B3 (by omega)⟩
  · have HP : Hid (TokPost s.data.toList at0 (.returned (.tuple #[.agg #[.int .i64 3, .int .i64 0, .string (s.extract at0 e0), .int .i64 (at0 : Nat)], .int .i64 (e0 : Nat), .int .i64 0]))) := by
      refine .inr ⟨⟨3, 0, (s.data.toList.drop at0).take (e0 - at0), at0⟩, e0, by simp only [tka, hbt]; rfl, h1, by rw [HL.out]; exact h2, HY.out _ ?_⟩
      unfold wrdT
      rw [hw]
      rfl
    have c0 : w2.cell? ⟨w.heap.size, 0, none⟩ = some (.int .i64 0) := by rw [cell_of_row _ _ _ _ _ _ k2]; rfl
    have c1 : w2.cell? ⟨w.heap.size, 1, none⟩ = some (.int .i64 0) := by rw [cell_of_row _ _ _ _ _ _ k2]; rfl
    have c2 : w2.cell? ⟨w.heap.size, 2, none⟩ = some (.string ⟨#[]⟩) := by rw [cell_of_row _ _ _ _ _ _ k2]; rfl
    have c3 : w2.cell? ⟨w.heap.size, 3, none⟩ = some (.int .i64 0) := by rw [cell_of_row _ _ _ _ _ _ k2]; rfl
    have fz : ∀ j, w2.frozen? ⟨w.heap.size, j, none⟩ = false := fun j => frozen_of_row w2 _ j _ _ k2
    have HK2 := Lib.hid k2
    clear k2
    clear hw hbt
    go_wp2
    refine bodyPost_ret (tok3_end rfl _ _ w.heap.size _ _ _ _ _ _ rfl (set4 _ _ _ _ HK2.out)) rfl ?_
    exact ⟨HP.out, bset4 _ _ _ _ B2 (by omega)⟩
set_option maxHeartbeats 1000000 in
theorem token_sign (s : ByteArray) (at0 : Nat) (w : World) (hat : at0 < s.size) (hs : s.size ≤ 2000) (hb : blk (s[at0]).toNat = false) (hd : dig (s[at0]).toNat = false) (hsm : sml (s[at0]).toNat = false) (hgr : grt (s[at0]).toNat = false) :
    Calls Tryd.prog 45 #[.string s, .int .i64 (at0 : Nat)] w fun e w' => TokPost s.data.toList at0 e ∧ Below w.heap.size w w' := by
  have HL : Hid (s.data.toList.length = s.size) := data_len s
  have hb0 : (s[at0]'hat).toNat < 256 := UInt8.toNat_lt _
  have hatI : (at0 : Int) < (s.size : Int) := by omega
  have hatL : (at0 : Int) ≤ (s.size : Int) := by omega
  have hal : at0 < s.data.toList.length := by rw [HL.out]; exact hat
  have hl : ltr (s[at0]'hat).toNat = false := by rw [ltr_grt, hsm, hgr]; rfl
  have hda := drop_at s.data.toList at0 hal
  rw [data_get s at0 hat hal] at hda
  have hsr := sign_read (s[at0]'hat) (s.data.toList.drop (at0 + 1)) at0 hb hl hd
  rw [← hda] at hsr
  obtain ⟨hx1, hx2⟩ := seg_ext s at0 s.size hat (Nat.le_refl _)
  rw [List.take_of_length_le (by rw [List.length_drop, HL.out]; exact Nat.le_refl _)] at hx1
  have HSR := Lib.hid hsr
  have HX := Lib.hid hx1
  have hz1 : 0 < (s.extract at0 s.size).size := by omega
  have hz2 : (s.extract at0 s.size).size ≤ 2000 := by omega
  clear hda hsr hx1 hx2 hl
  go_enter Tryd.func45, Tryd.ntmps45
  go_wp2_with (first | (go_at_call 72; refine (dig_r _ _ hb0).mono ?_; rw [hd]; rintro e w1 ⟨rfl, rfl⟩) | (go_at_call 75; refine (sml_r _ _ hb0).mono ?_; rw [hsm]; rintro e w1 ⟨rfl, rfl⟩) | (go_at_call 76; refine (grt_r _ _ hb0).mono ?_; rw [hgr]; rintro e w1 ⟨rfl, rfl⟩) | (go_at_call 79; refine (sign_r _ _ hz1 hz2).mono ?_; rw [HX.out]; rintro e w2 ⟨rfl, hb2⟩; refine Hid.out ?_))
  refine Lib.hid ?_
  obtain ⟨k2, B2⟩ := one_box hb2
  clear hb2 hz1 hz2
  have c0 : w2.cell? ⟨w.heap.size, 0, none⟩ = some (.int .i64 0) := by rw [cell_of_row _ _ _ _ _ _ k2]; rfl
  have c1 : w2.cell? ⟨w.heap.size, 1, none⟩ = some (.int .i64 0) := by rw [cell_of_row _ _ _ _ _ _ k2]; rfl
  have c2 : w2.cell? ⟨w.heap.size, 2, none⟩ = some (.string ⟨#[]⟩) := by rw [cell_of_row _ _ _ _ _ _ k2]; rfl
  have c3 : w2.cell? ⟨w.heap.size, 3, none⟩ = some (.int .i64 0) := by rw [cell_of_row _ _ _ _ _ _ k2]; rfl
  have fz : ∀ j, w2.frozen? ⟨w.heap.size, j, none⟩ = false := fun j => frozen_of_row w2 _ j _ _ k2
  have HK2 := Lib.hid k2
  clear k2
  obtain ⟨U, hU⟩ : ∃ U : ByteArray, U = ⟨(sgnU (s.data.toList.drop at0)).toArray⟩ := ⟨_, rfl⟩
  have hUs : U.size = (sgnU (s.data.toList.drop at0)).length := by rw [hU, mk_size]
  rw [← hU]
  rcases HSR.out with ⟨h1, h2⟩ | ⟨h1, h2, h3⟩
  · have hU0 : U = ⟨#[]⟩ := by rw [hU, h1]
    have HP : Hid (TokPost s.data.toList at0 (.returned (.tuple #[.agg #[.int .i64 0, .int .i64 0, .string ⟨#[]⟩, .int .i64 0], .int .i64 0, .int .i64 110]))) := .inl ⟨110, rfl, h2, by omega⟩
    clear hU hUs h1 h2
    subst hU0
    go_wp2
    refine bodyPost_ret (tok3_end rfl _ _ w.heap.size _ _ _ _ _ _ rfl (set4 _ _ _ _ HK2.out)) rfl ?_
    exact ⟨HP.out, bset4 _ _ _ _ B2 (by omega)⟩
  · have hln : 0 < (sgnU (s.data.toList.drop at0)).length := List.length_pos_iff.2 h1
    have hdl : (s.data.toList.drop at0).length = s.size - at0 := by rw [List.length_drop, HL.out]
    have h4 : at0 + U.size ≤ s.size := by omega
    have hne : U.toList.isEmpty = false := str_full (by omega)
    have HP : Hid (TokPost s.data.toList at0 (.returned (.tuple #[.agg #[.int .i64 4, .int .i64 0, .string U, .int .i64 (at0 : Nat)], .int .i64 ((at0 : Int) + (U.size : Int)), .int .i64 0]))) := by
      refine .inr ⟨⟨4, 0, sgnU (s.data.toList.drop at0), at0⟩, at0 + U.size, ?_, by omega, by rw [HL.out]; exact h4, ?_⟩
      · simp only [tka, ← hU, Int.natCast_add]
        rfl
      · rw [h3, ← hUs, List.drop_drop]
    have h4I : (at0 : Int) + (U.size : Int) ≤ 2000 := by omega
    clear hU hUs h1 h2 h3 hln hdl
    go_wp2
    refine bodyPost_ret (tok3_end rfl _ _ w.heap.size _ _ _ _ _ _ rfl (set4 _ _ _ _ HK2.out)) rfl ?_
    exact ⟨HP.out, bset4 _ _ _ _ B2 (by omega)⟩
theorem token_q (s : ByteArray) (at0 : Nat) (w : World) (hat : at0 < s.size) (hs : s.size ≤ 2000) (hb : blk (s[at0]).toNat = false) :
    Calls Tryd.prog 45 #[.string s, .int .i64 (at0 : Nat)] w fun e w' => TokPost s.data.toList at0 e ∧ Below w.heap.size w w' := by
  cases hd : dig (s[at0]'hat).toNat
  · cases hsm : sml (s[at0]'hat).toNat
    · cases hgr : grt (s[at0]'hat).toNat
      · exact token_sign s at0 w hat hs hb hd hsm hgr
      · exact token_wordG s at0 w hat hs hb hd hsm hgr
    · exact token_wordS s at0 w hat hs hb hd hsm
  · exact token_num s at0 w hat hs hb hd
end Go.Proofs.YtafnlhnenmpfoaaDoor
