/- The law LexScans, walked. -/
import Derived.Test.YtgebhhfliphpdaaDoorLexF
namespace Go.Proofs.YtgebhhfliphpdaaDoor
open Go.ChangeShapes Go.WideShapes Go.ChangeAt Go.RowKit
set_option linter.unusedVariables false

abbrev I1s : Nat → Prop := fun k => k = 1
theorem I1s_below {w wr : World} {o : Nat → Nat} (h : Step I1s w (fun _ => 0) wr o) : Below w.heap.size w wr := h.below (fun _ _ h => by cases h)
/-- A row of new memory under a label. -/
theorem Row.ofFresh {w w' : World} {e : TypeId} {size : Nat} {v : Value} {n : Nat} {xs : List Value} (o : Nat → Nat) (i : Nat) (h : w'.ownsRow w.heap.size e size v n xs) : Row w' (newLab w o i) i e size v n xs := by
  refine ⟨ownsRow_base0 h, fun k hk => ?_⟩
  rcases h.2 with ⟨rfl, _⟩ | ⟨g, cap, cur, rfl, hb, _⟩
  · simp [Value.ownBlock] at hk
  · simp [Value.ownBlock] at hk
    subst hk
    exact newLab_new hb
theorem Step.ofBelowNew {I : Nat → Prop} {w w' : World} (o : Nat → Nat) (i : Nat) (h : Below w.heap.size w w') : Step I w o w' (newLab w o i) := ⟨h.os, h.tape, h.output, h.size, fun k hk => newLab_old hk, fun k hk _ => h.block k hk⟩
theorem Row.store4 {w : World} {o : Nat → Nat} {e : TypeId} {g n cap : Nat} {xs : List Value} (h : Row w o 1 e 4 (.slice (some ⟨g, 0, none⟩) n cap) n xs) (j : Nat) (a b c d : Value) :
    ∃ ys, Row ((((w.setCell ⟨g, j, none⟩ a).setCell ⟨g, j + 1, none⟩ b).setCell ⟨g, j + 2, none⟩ c).setCell ⟨g, j + 3, none⟩ d) o 1 e 4 (.slice (some ⟨g, 0, none⟩) n cap) n ys ∧ Step I1s w o ((((w.setCell ⟨g, j, none⟩ a).setCell ⟨g, j + 1, none⟩ b).setCell ⟨g, j + 2, none⟩ c).setCell ⟨g, j + 3, none⟩ d) o := by
  have hl : o g = 1 := h.2 g rfl
  exact ⟨_, ((((h.store j a).store (j + 1) b).store (j + 2) c).store (j + 3) d), ((((Step.refl I1s w o).setCell ⟨g, j, none⟩ a hl).setCell ⟨g, j + 1, none⟩ b hl).setCell ⟨g, j + 2, none⟩ c hl).setCell ⟨g, j + 3, none⟩ d hl⟩
def tsOf : Res → List Tk
  | .inl _ => []
  | .inr ts => ts
def erOf : Res → Nat
  | .inl e => e.1
  | .inr _ => 0
def atOf : Res → Nat
  | .inl e => e.2
  | .inr _ => 0
theorem ScanOut.uni {w w' : World} {v : Value} {er at0 : Int} {R : Res} (h : ScanOut w w' v er at0 R) : er = (erOf R : Nat) ∧ at0 = (atOf R : Nat) ∧ w'.ownsRow w.heap.size 29 4 v (tsOf R).length (tcells (tsOf R)) := by
  rcases h with ⟨e, p, rfl, rfl, rfl, rfl⟩ | ⟨ts, rfl, rfl, rfl, h⟩
  · exact ⟨rfl, rfl, World.ownsRow_nil _ _ _ _⟩
  · exact ⟨rfl, rfl, h⟩
theorem tsOf_len (l : List UInt8) : (tsOf (scanA l)).length ≤ 2001 := by
  cases h : scanA l with
  | inl e => exact Nat.zero_le _
  | inr ts => exact (scan_ok h).2.2.1
set_option maxRecDepth 100000 in
set_option maxHeartbeats 4000000 in
theorem scans_walk (s : ByteArray) (w : World) (hs : s.size ≤ maxLen) (hW : Wd w) (hE : Ers w) :
    Calls Tryd.prog 3 #[.string s] w fun e w' => e = .returned (.bool true) ∧ Below w.heap.size w w' := by
  go_enter Tryd.func3, Tryd.ntmps3
  go_wp2_with fail
  refine (awake_c w hW hE).mono ?_
  rintro e w1 ⟨rfl, hb1⟩
  go_wp2_with fail
  refine (rscan_c s w1 hs).mono ?_
  rintro e w2 ⟨v2, er2, at2, rfl, ho2, hb2⟩
  have B2 := hb1.trans (hb2.mono hb1.size)
  obtain ⟨er, her⟩ : ∃ n : Nat, n = erOf (scanA s.data.toList) := ⟨_, rfl⟩
  obtain ⟨ap, hap⟩ : ∃ n : Nat, n = atOf (scanA s.data.toList) := ⟨_, rfl⟩
  obtain ⟨ts, hts⟩ : ∃ ts, ts = tsOf (scanA s.data.toList) := ⟨_, rfl⟩
  have HU : Hid (∀ (w w' : World) (v : Value) (er' at' : Int), ScanOut w w' v er' at' (scanA s.data.toList) → er' = (er : Nat) ∧ at' = (ap : Nat) ∧ w'.ownsRow w.heap.size 29 4 v ts.length (tcells ts)) := fun w w' v er' at' h => by
    rw [her, hap, hts]
    exact h.uni
  have htl : ts.length ≤ 2001 := by rw [hts]; exact tsOf_len _
  clear her hap hts
  obtain ⟨rfl, rfl, hr2⟩ := HU.out _ _ _ _ _ ho2
  have T2 := Tks.of hr2
  obtain ⟨ao, cap, rfl⟩ := T2.form
  obtain ⟨nT, hnT⟩ : ∃ n, n = ts.length := ⟨_, rfl⟩
  have HN := Lib.hid hnT
  rw [← hnT] at T2 htl ⊢
  have HT := Lib.hid T2
  obtain ⟨ii, hii, hz0, hz1, hz2⟩ := info_parts infoToken
  clear ho2 hr2 hb1 hb2 hnT T2
  go_wp2_with fail
  go_loopw [7] (fun v wr => ∃ (t : Nat) (o : Nat → Nat), v = .int .i64 (t : Nat) ∧ t ≤ 2 ∧ Step I1s w2 (fun _ => 0) wr o) (fun v _ => 2 - (intOf v).toNat)
  case atStart => exact ⟨0, fun _ => 0, by go_num, by omega, Step.refl _ _ _⟩
  case round =>
    obtain ⟨t, o, rfl, ht, hS⟩ := hrel
    have hbr := I1s_below hS
    have hbw := B2.trans (hbr.mono B2.size)
    by_cases ht2 : t < 2
    · have htI : (t : Int) < 2 := by omega
      have Wr := hW.below hbw
      have Er := hE.below hbw
      go_wp2_with fail
      refine (scan_c s wr Wr Er hs).mono ?_
      rintro e w3 ⟨v3, er3, at3, rfl, ho3, hb3⟩
      obtain ⟨rfl, rfl, hr3⟩ := HU.out _ _ _ _ _ ho3
      have T3 := Tks.of hr3
      have TW := (HT.out.below hbr).below hb3
      have R3 := Row.ofFresh (o := o) 1 hr3
      have S3 := hS.trans (Step.ofBelowNew (I := I1s) o 1 hb3)
      obtain ⟨a3, c3, rfl⟩ := T3.form
      rw [← HN.out] at T3 R3 ⊢
      generalize newLab wr o 1 = o3 at *
      clear ho3 hr3 hb3 Wr Er hbw hbr
      go_wp2_with fail
      refine (same_c w3 _ _ ts T3 TW (by rw [← HN.out]; exact htl)).mono ?_
      rintro e w4 ⟨rfl, hb4⟩
      have R4 := R3.step (Step.ofBelow (I := fun _ => False) o3 hb4) (by simp)
      have S4 := S3.trans (Step.ofBelow (I := I1s) o3 hb4)
      clear R3 S3 T3 TW hb4
      go_wp2_with fail
      go_loopw [12] (fun v wz => ∃ (i : Nat) (ys : List Value), v = .int .i64 (i : Nat) ∧ i ≤ nT ∧ Row wz o3 1 29 4 (.slice a3 nT c3) nT ys ∧ Step I1s w2 (fun _ => 0) wz o3) (fun v _ => nT - (intOf v).toNat)
      case atStart => exact ⟨0, _, by go_num, by omega, R4, S4⟩
      case round =>
        obtain ⟨i, ys, rfl, hi, hRw, hSt⟩ := hrel
        clear R4 S4
        by_cases hlt : i < nT
        · have hiI : (i : Int) < (nT : Int) := by omega
          obtain ⟨g, cg, eg, _, _, _, _, hce, hfr⟩ := hRw.pos (by omega)
          injection eg with eg1 eg2 eg3
          subst eg1
          clear eg2 eg3
          have yl := hRw.len
          have d0 : wr.cell? ⟨g, i * 4, none⟩ = some (ys[i * 4]'(by omega)) := by rw [hce _ (by omega), List.getElem?_eq_getElem]
          have d1 : wr.cell? ⟨g, i * 4 + 1, none⟩ = some (ys[i * 4 + 1]'(by omega)) := by rw [hce _ (by omega), List.getElem?_eq_getElem]
          have d2 : wr.cell? ⟨g, i * 4 + 2, none⟩ = some (ys[i * 4 + 2]'(by omega)) := by rw [hce _ (by omega), List.getElem?_eq_getElem]
          have d3 : wr.cell? ⟨g, i * 4 + 3, none⟩ = some (ys[i * 4 + 3]'(by omega)) := by rw [hce _ (by omega), List.getElem?_eq_getElem]
          have HRw := Lib.hid hRw
          generalize ys[i * 4]'(by omega) = x0 at *
          generalize ys[i * 4 + 1]'(by omega) = x1 at *
          generalize ys[i * 4 + 2]'(by omega) = x2 at *
          generalize ys[i * 4 + 3]'(by omega) = x3 at *
          clear hce hRw yl
          go_wp2
          obtain ⟨zs, hz, hzs⟩ := HRw.out.store4 (i * 4) (.int .i64 (-1)) (.int .i64 (-1)) (.string ⟨#[111, 118, 101, 114]⟩) (.int .i64 (-1))
          go_roundw
          case rel => (try ((repeat apply Exists.intro); refine ⟨?_, rfl⟩)); exact ⟨i + 1, zs, by go_num, by omega, hz, hSt.trans hzs⟩
          case measure => simp [intOf]; omega
        · obtain rfl : i = nT := by omega
          have R5' := hRw.step (allocStep (fun _ => False) wr o3 (.cells #[.int .i64 (-2), .int .i64 0, .string ⟨#[]⟩, .int .i64 0] 29)) (by simp)
          clear hRw
          go_wp2_with (first | (at_builtin; refine wpList_append_lab rfl (.tmp 59) (.tmp 61) 23 rfl 29 ii (.agg #[.int .i64 0, .int .i64 0, .string ⟨#[]⟩, .int .i64 0]) 4 40 Tryd.underlying23 hii hz0 hz1 hz2 rfl (by decide) o3 1 _ i ys rfl R5' ⟨wr.heap.size, 0, none⟩ 1 1 [.int .i64 (-2), .int .i64 0, .string ⟨#[]⟩, .int .i64 0] rfl rfl ?c1 ?c2 (by decide) ?c3 ?c4 ?_) | go_in)
          case c1 => exact new_four_at (by simp) _ _ _ _ _
          case c2 => intro u hu; simp at hu; rcases hu with rfl | rfl | rfl | rfl <;> rfl
          case c3 => unfold maxLen; omega
          case c4 => omega
          intro g5 cap5 w5 o5 R6 s6'
          have S6 := (hSt.trans (allocStep I1s wr o3 _)).trans s6'
          clear R5' R6 s6'
          go_wp2
          go_roundw
          case rel => (try ((repeat apply Exists.intro); refine ⟨?_, rfl⟩)); exact ⟨t + 1, o5, by go_num, by omega, S6⟩
          case measure => simp [intOf]; omega
    · obtain rfl : t = 2 := by omega
      go_wp2
      go_ret
      exact ⟨rfl, hbw⟩
end Go.Proofs.YtgebhhfliphpdaaDoor
