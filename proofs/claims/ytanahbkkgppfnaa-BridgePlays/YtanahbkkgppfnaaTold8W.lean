/- Does an oracle say what the document's does? -/
import Derived.Test.YtanahbkkgppfnaaRefO
import Derived.Test.YtanahbkkgppfnaaAwk
import Derived.Deep.LoopGhost
namespace Go.Proofs.Ytanahbkkgppfnaa
open Go.ChangeShapes Go.WideShapes Go.ChangeAt Go.RowKit
set_option linter.unusedVariables false
set_option linter.unusedSimpArgs false

/-- A vertex's block, of whatever number. -/
def bA (n : Nat) (bl : Nat → Nat) (x : Int) : Int := if 0 ≤ x ∧ x < (n : Int) then (bl x.toNat : Int) else 0
def bE (n : Nat) (x : Int) : Int := if 0 ≤ x ∧ x < (n : Int) then 0 else 80
def sA (n : Nat) (bl : Nat → Nat) (x y : Int) : Bool := if (0 ≤ x ∧ x < (n : Int)) ∧ (0 ≤ y ∧ y < (n : Int)) then decide (bl x.toNat = bl y.toNat) else false
def sE (n : Nat) (x y : Int) : Int := if (0 ≤ x ∧ x < (n : Int)) ∧ (0 ≤ y ∧ y < (n : Int)) then 0 else 80
theorem block_any (w : World) (o : Nat → Nat) (L q n : Nat) (x : Int) (B : List Nat) (bl : Nat → Nat) (h : Or8 w o L q n B bl) (hn : n ≤ 64) :
    Calls Try.prog 12 #[.pointer (some ⟨q, 0, none⟩), .int .i64 x] w fun e w' => e = .returned (.tuple #[.int .i64 (bA n bl x), .int .i64 (bE n x)]) ∧ w' = w := by
  by_cases hx : 0 ≤ x ∧ x < (n : Int)
  · have := block_w w o L q n x.toNat B bl h (by omega) hn
    rw [Int.toNat_of_nonneg hx.1] at this
    unfold bA bE
    rw [if_pos hx, if_pos hx]
    exact this
  · have := blockNo_w w o L q n x B bl h hx
    unfold bA bE
    rw [if_neg hx, if_neg hx]
    exact this
theorem refBlock_any (w : World) (o : Nat → Nat) (L q n : Nat) (x : Int) (B : List Nat) (bl : Nat → Nat) (h : Rf8 w o L q n B bl) (hn : n ≤ 64) :
    Calls Try.prog 24 #[.pointer (some ⟨q, 0, none⟩), .int .i64 x] w fun e w' => e = .returned (.tuple #[.int .i64 (bA n bl x), .int .i64 (bE n x)]) ∧ w' = w := by
  by_cases hx : 0 ≤ x ∧ x < (n : Int)
  · have := refBlock_w w o L q n x.toNat B bl h (by omega) hn
    rw [Int.toNat_of_nonneg hx.1] at this
    unfold bA bE
    rw [if_pos hx, if_pos hx]
    exact this
  · have := refBlockNo_w w o L q n x B bl h hx
    unfold bA bE
    rw [if_neg hx, if_neg hx]
    exact this
theorem same_any (w : World) (o : Nat → Nat) (L q n : Nat) (x y : Int) (B : List Nat) (bl : Nat → Nat) (h : Or8 w o L q n B bl) (hn : n ≤ 64) :
    Calls Try.prog 25 #[.pointer (some ⟨q, 0, none⟩), .int .i64 x, .int .i64 y] w fun e w' => e = .returned (.tuple #[.bool (sA n bl x y), .int .i64 (sE n x y)]) ∧ ∃ m, w' = w.drewN m := by
  by_cases hx : 0 ≤ x ∧ x < (n : Int)
  · by_cases hy : 0 ≤ y ∧ y < (n : Int)
    · have := sameO_w w o L q n x.toNat y.toNat B bl h (by omega) (by omega) hn
      rw [Int.toNat_of_nonneg hx.1, Int.toNat_of_nonneg hy.1] at this
      unfold sA sE
      rw [if_pos ⟨hx, hy⟩, if_pos ⟨hx, hy⟩]
      exact this
    · have := sameNo2_w w o L q n x.toNat y B bl h (by omega) hn hy
      rw [Int.toNat_of_nonneg hx.1] at this
      unfold sA sE
      rw [if_neg fun h => hy h.2, if_neg fun h => hy h.2]
      exact this
  · have := sameNo1_w w o L q n x y B bl h hx
    unfold sA sE
    rw [if_neg fun h => hx h.1, if_neg fun h => hx h.1]
    exact this
theorem refSame_any (w : World) (o : Nat → Nat) (L q n : Nat) (x y : Int) (B : List Nat) (bl : Nat → Nat) (h : Rf8 w o L q n B bl) (hn : n ≤ 64) :
    Calls Try.prog 26 #[.pointer (some ⟨q, 0, none⟩), .int .i64 x, .int .i64 y] w fun e w' => e = .returned (.tuple #[.bool (sA n bl x y), .int .i64 (sE n x y)]) ∧ ∃ m, w' = w.drewN m := by
  by_cases hx : (0 ≤ x ∧ x < (n : Int)) ∧ (0 ≤ y ∧ y < (n : Int))
  · have := refSame_w w o L q n x.toNat y.toNat B bl h (by omega) (by omega) hn
    rw [Int.toNat_of_nonneg hx.1.1, Int.toNat_of_nonneg hx.2.1] at this
    unfold sA sE
    rw [if_pos hx, if_pos hx]
    exact this
  · have := refSameNo_w w o L q n x y B bl h (by
      by_cases q : 0 ≤ x ∧ x < (n : Int)
      · exact .inr fun r => hx ⟨q, r⟩
      · exact .inl q)
    unfold sA sE
    rw [if_neg hx, if_neg hx]
    exact this
/-- So many of one number. -/
def rep8 (k : Nat) : List Value := List.replicate k (.int .i64 (-1))
theorem rep8_set {xs : List Value} {k : Nat} (hk : k < xs.length) : (rep8 k ++ xs.drop k).set k (.int .i64 (-1)) = rep8 (k + 1) ++ xs.drop (k + 1) := by
  have hl : (rep8 k).length = k := by simp [rep8]
  rw [List.set_append_right _ _ (by omega), hl, Nat.sub_self, List.drop_eq_getElem_cons hk]
  show rep8 k ++ (.int .i64 (-1)) :: xs.drop (k + 1) = _
  rw [rep8, rep8, List.replicate_succ', List.append_assoc]
  rfl
/-- Both oracles, as they stand from round to round. -/
def TdS (w : World) (o : Nat → Nat) (L q M p n : Nat) (B : List Nat) (bl : Nat → Nat) (T : Nat) (wr : World) : Prop :=
  ∃ o', Or8 wr o' L q n B bl ∧ Rf8 wr o' M p n B bl ∧ Step (fun k => T ≤ k ∧ k ≤ T + 9) w o wr o'
theorem TdS.drewN {w : World} {o : Nat → Nat} {L q M p n : Nat} {B : List Nat} {bl : Nat → Nat} {T : Nat} {wr : World} (h : TdS w o L q M p n B bl T wr) (m : Nat) : TdS w o L q M p n B bl T (wr.drewN m) := by
  obtain ⟨o', h1, h2, h3⟩ := h
  exact ⟨o', h1.step (drewStep (fun _ => False) wr o' m) (fun _ _ h => h), h2.step (drewStep (fun _ => False) wr o' m) (fun _ _ h => h), h3.drewN m⟩
def ToldOut (w : World) (o : Nat → Nat) (T : Nat) (e : Ending) (w' : World) : Prop := ∃ o', e = .returned (.bool true) ∧ Step (fun k => T ≤ k ∧ k ≤ T + 9) w o w' o'
set_option maxRecDepth 100000 in
set_option maxHeartbeats 8000000 in
theorem told_w (w : World) (o : Nat → Nat) (L q M p n T : Nat) (B : List Nat) (bl : Nat → Nat) (h1 : Or8 w o L q n B bl) (h2 : Rf8 w o M p n B bl) (hn1 : 1 ≤ n) (hn : n ≤ 64) (hB : B.length ≤ 192) (hTL : L + 600 < T) (hTM : M + 600 < T) :
    Calls Try.prog 9 #[.pointer (some ⟨q, 0, none⟩), .pointer (some ⟨p, 0, none⟩)] w fun e w' => ToldOut w o T e w' := by
  obtain ⟨ii, hii, hzi0, hzi1, hzi2⟩ := info_parts infoInt
  have hb1 := bridges_w w o L q n (T + 1) B bl h1 (by omega)
  go_enter Try.func9, Try.ntmps9
  go_wp2_with fail
  refine hb1.mono ?_
  rintro e w1 ⟨va, o1, rfl, RA1, s1⟩
  have P1 := h1.step s1 (fun k hk x => by have := hk.2; omega)
  have F1 := h2.step s1 (fun k hk x => by have := hk.2; omega)
  have S1 : Step (fun k => T ≤ k ∧ k ≤ T + 9) w o w1 o1 := s1.mono fun k hk => by omega
  have hb2 := bridges_w w1 o1 L q n (T + 2) B bl P1 (by omega)
  obtain ⟨aa, ca, rfl⟩ := RA1.form
  clear hb1 s1 h1 h2
  go_wp2_with fail
  refine hb2.mono ?_
  rintro e w2 ⟨vb, o2, rfl, RB2, s2⟩
  have P2 := P1.step s2 (fun k hk x => by have := hk.2; omega)
  have F2 := F1.step s2 (fun k hk x => by have := hk.2; omega)
  have RA2 := RA1.step s2 (by omega)
  have S2 : Step (fun k => T ≤ k ∧ k ≤ T + 9) w o w2 o2 := S1.trans (s2.mono fun k hk => by omega)
  have hb3 := refBridges_w w2 o2 M p n (T + 3) B bl F2 (by omega)
  obtain ⟨ab, cb, rfl⟩ := RB2.form
  clear hb2 s2 P1 F1 RA1 S1
  go_wp2_with fail
  refine hb3.mono ?_
  rintro e w3 ⟨vc, o3, rfl, RC3, s3⟩
  have P3 := P2.step s3 (fun k hk x => by have := hk.2; omega)
  have F3 := F2.step s3 (fun k hk x => by have := hk.2; omega)
  have RA3 := RA2.step s3 (by omega)
  have RB3 := RB2.step s3 (by omega)
  have S3 : Step (fun k => T ≤ k ∧ k ≤ T + 9) w o w3 o3 := S2.trans (s3.mono fun k hk => by omega)
  have hsm := same_w w3 o3 o3 (T + 1) (T + 3) _ _ B B RA3.vw RC3.vw (by omega) (by omega)
  rw [decide_eq_true (rfl : B = B)] at hsm
  obtain ⟨ac, cc, rfl⟩ := RC3.form
  clear hb3 s3 P2 F2 RA2 RB2 S2 RC3
  go_wp2_with fail
  refine hsm.mono ?_
  rintro e w4 ⟨rfl, s4⟩
  have START : ∃ o', Row w4 o' (T + 1) 3 1 (.slice aa B.length ca) B.length (rep8 0 ++ (intsL B).drop 0) ∧ Row w4 o' (T + 2) 3 1 (.slice ab B.length cb) B.length (intsL B) ∧ Or8 w4 o' L q n B bl ∧ Rf8 w4 o' M p n B bl ∧ Step (fun k => T ≤ k ∧ k ≤ T + 9) w o w4 o' := by
    refine ⟨o3, ?_, RB3.step s4 (fun h => h), P3.step s4 (fun _ _ h => h), F3.step s4 (fun _ _ h => h), S3.trans (s4.mono fun _ h => h.elim)⟩
    simpa [rep8] using RA3.step s4 (fun h => h)
  clear hsm s4 P3 F3 RA3 RB3 S3
  go_upto_block 0 with fail
  go_cut [] (fun wx => ∃ o', Row wx o' (T + 1) 3 1 (.slice aa B.length ca) B.length (rep8 B.length) ∧ Row wx o' (T + 2) 3 1 (.slice ab B.length cb) B.length (intsL B) ∧ Or8 wx o' L q n B bl ∧ Rf8 wx o' M p n B bl ∧ Step (fun k => T ≤ k ∧ k ≤ T + 9) w o wx o')
  case first =>
    go_wp2_with fail
    go_loopg [8] B.length (fun gh vi wr => ∃ k, k ≤ B.length ∧ gh = B.length - k ∧ vi = .int .i64 (k : Nat) ∧ ∃ o', Row wr o' (T + 1) 3 1 (.slice aa B.length ca) B.length (rep8 k ++ (intsL B).drop k) ∧ Row wr o' (T + 2) 3 1 (.slice ab B.length cb) B.length (intsL B) ∧ Or8 wr o' L q n B bl ∧ Rf8 wr o' M p n B bl ∧ Step (fun k => T ≤ k ∧ k ≤ T + 9) w o wr o')
    case atStart => exact ⟨0, by omega, by omega, by go_num, START⟩
    case round =>
      clear START
      obtain ⟨k, hk, rfl, rfl, o', RA, RB, PP, FF, SS⟩ := hrel
      by_cases hkn : k < B.length
      · have hkI : (k : Int) < (B.length : Int) := by omega
        obtain ⟨ga, cap, hv', hg, hc, hm, hlt, hcell, hfr⟩ := RA.pos (by omega)
        simp only [Value.slice.injEq, true_and] at hv'
        obtain ⟨rfl, rfl⟩ := hv'
        have hln : (rep8 k ++ (intsL B).drop k).length = B.length := by rw [List.length_append, List.length_drop, intsL_len]; simp [rep8]; omega
        have y0 := hcell k (by omega)
        rw [List.getElem?_eq_getElem (by omega)] at y0
        generalize (rep8 k ++ (intsL B).drop k)[k] = u0 at y0
        have f0 := hfr k
        have s5 : Step (fun j => j = T + 1) wr o' (wr.setCell ⟨ga, k, none⟩ (.int .i64 (-1))) o' := setStep _ wr o' ⟨ga, k, none⟩ _ hg
        have HN : Hid (∃ o', Row (wr.setCell ⟨ga, k, none⟩ (.int .i64 (-1))) o' (T + 1) 3 1 (.slice (some ⟨ga, 0, none⟩) B.length ca) B.length (rep8 (k + 1) ++ (intsL B).drop (k + 1)) ∧ Row (wr.setCell ⟨ga, k, none⟩ (.int .i64 (-1))) o' (T + 2) 3 1 (.slice ab B.length cb) B.length (intsL B) ∧ Or8 (wr.setCell ⟨ga, k, none⟩ (.int .i64 (-1))) o' L q n B bl ∧ Rf8 (wr.setCell ⟨ga, k, none⟩ (.int .i64 (-1))) o' M p n B bl ∧ Step (fun k => T ≤ k ∧ k ≤ T + 9) w o (wr.setCell ⟨ga, k, none⟩ (.int .i64 (-1))) o') := by
          refine ⟨o', ?_, RB.step s5 (by omega), PP.step s5 (fun k hk x => by have := hk.2; omega), FF.step s5 (fun k hk x => by have := hk.2; omega), SS.trans (s5.mono fun k hk => by omega)⟩
          have := RA.store k (.int .i64 (-1))
          rw [rep8_set (by rw [intsL_len]; exact hkn)] at this
          exact this
        clear s5 RA RB PP FF SS hcell hfr hln hc hm
        go_wp2
        go_roundg (B.length - (k + 1))
        case measure => omega
        case rel => exact ⟨k + 1, by omega, rfl, by go_num, HN.out⟩
      · obtain rfl : k = B.length := by omega
        have HN : ∃ o', Row wr o' (T + 1) 3 1 (.slice aa B.length ca) B.length (rep8 B.length) ∧ Row wr o' (T + 2) 3 1 (.slice ab B.length cb) B.length (intsL B) ∧ Or8 wr o' L q n B bl ∧ Rf8 wr o' M p n B bl ∧ Step (fun k => T ≤ k ∧ k ≤ T + 9) w o wr o' := by
          refine ⟨o', ?_, RB, PP, FF, SS⟩
          rw [List.drop_eq_nil_of_le (by rw [intsL_len]; omega), List.append_nil] at RA
          exact RA
        clear RA RB PP FF SS
        go_wp2
        go_meet
        exact HN
  case rest =>
  obtain ⟨o5, RA5, RB5, P5, F5, S5⟩ := hcut
  clear START
  generalize wc = w5 at RA5 RB5 P5 F5 S5 ⊢
  have hone1 : ∀ z ∈ ([.int .i64 (-1)] : List Value), z.oneCell' = true := fun z hz => by simp at hz; subst hz; rfl
  have hone2 : ∀ z ∈ ([.int .i64 (-2)] : List Value), z.oneCell' = true := fun z hz => by simp at hz; subst hz; rfl
  have hml : B.length + 1 ≤ maxLen := by unfold maxLen; omega
  go_wp2_with (first | (at_builtin; refine wpList_append_lab rfl (.tmp 38) (.tmp 39) 38 rfl 3 ii (.int .i64 0) 1 8 Try.underlying38 hii hzi0 hzi1 hzi2 rfl (by decide) o5 (T + 1) _ B.length (rep8 B.length) rfl (RA5.step (allocStep (fun _ => False) _ o5 _) (by simp)) ⟨w5.heap.size, 0, none⟩ 1 1 [.int .i64 (-1)] rfl rfl (new_one _ _ _) hone1 (by decide) hml ?c4 ?_) | go_in)
  case c4 => omega
  intro ga ca6 w6 o6 RA6 s6
  have t6 := (allocStep (fun j => j = T + 1) w5 o5 _).trans s6
  have RB6 := RB5.step t6 (by omega)
  have P6 := P5.step t6 (fun k hk x => by have := hk.2; omega)
  have F6 := F5.step t6 (fun k hk x => by have := hk.2; omega)
  have S6 : Step (fun k => T ≤ k ∧ k ≤ T + 9) w o w6 o6 := S5.trans (t6.mono fun k hk => by omega)
  have hb3 := refBridges_w w6 o6 M p n (T + 4) B bl F6 (by omega)
  clear s6 t6 RA5 RB5 P5 F5 S5
  go_wp2_with fail
  refine hb3.mono ?_
  rintro e w7 ⟨vc, o7, rfl, RC7, s7⟩
  have P7 := P6.step s7 (fun k hk x => by have := hk.2; omega)
  have F7 := F6.step s7 (fun k hk x => by have := hk.2; omega)
  have RA7 := RA6.step s7 (by omega)
  have RB7 := RB6.step s7 (by omega)
  have S7 : Step (fun k => T ≤ k ∧ k ≤ T + 9) w o w7 o7 := S6.trans (s7.mono fun k hk => by omega)
  have hsm := same_w w7 o7 o7 (T + 2) (T + 4) _ _ B B RB7.vw RC7.vw (by omega) (by omega)
  rw [decide_eq_true (rfl : B = B)] at hsm
  obtain ⟨ac, cc, rfl⟩ := RC7.form
  clear hb3 s7 P6 F6 RA6 RB6 S6 RC7
  go_wp2_with fail
  refine hsm.mono ?_
  rintro e w8 ⟨rfl, s8⟩
  have P8 := P7.step s8 (fun _ _ h => h)
  have F8 := F7.step s8 (fun _ _ h => h)
  have RA8 := RA7.step s8 (fun h => h)
  have RB8 := RB7.step s8 (fun h => h)
  have S8 : Step (fun k => T ≤ k ∧ k ≤ T + 9) w o w8 o7 := S7.trans (s8.mono fun _ h => h.elim)
  clear hsm s8 P7 F7 RA7 RB7 S7
  go_wp2_with (first | (at_builtin; refine wpList_append_lab rfl (.tmp 45) (.tmp 46) 38 rfl 3 ii (.int .i64 0) 1 8 Try.underlying38 hii hzi0 hzi1 hzi2 rfl (by decide) o7 (T + 2) _ B.length (intsL B) rfl (RB8.step (allocStep (fun _ => False) _ o7 _) (by simp)) ⟨w8.heap.size, 0, none⟩ 1 1 [.int .i64 (-2)] rfl rfl (new_one _ _ _) hone2 (by decide) hml ?c4 ?_) | go_in)
  case c4 => omega
  intro gb cb9 w9 o9 RB9 s9
  have t9 := (allocStep (fun j => j = T + 2) w8 o7 _).trans s9
  have RA9 := RA8.step t9 (by omega)
  have T9 : TdS w o L q M p n B bl T w9 := ⟨o9, P8.step t9 (fun k hk x => by have := hk.2; omega), F8.step t9 (fun k hk x => by have := hk.2; omega), S8.trans (t9.mono fun k hk => by omega)⟩
  clear s9 t9 RA8 RB8 P8 F8 S8 hone1 hone2 hml
  obtain ⟨g', cap', hv', _, _, _, _, hcellA, _⟩ := RA9.pos (by omega)
  simp only [Value.slice.injEq, Option.some.injEq, Addr.mk.injEq, and_true, true_and] at hv'
  obtain ⟨rfl, rfl⟩ := hv'
  have HCA : Hid (∀ k, k ≤ B.length → w9.cell? ⟨ga, k, none⟩ = some (.int .i64 (-1))) := fun k hk => by
    rw [hcellA k (by omega)]
    have e : rep8 B.length ++ [.int .i64 (-1)] = rep8 (B.length + 1) := by simp [rep8, List.replicate_succ']
    rw [e, rep8, List.getElem?_replicate, if_pos (by omega)]
  obtain ⟨g', cap', hv', _, _, _, _, hcellB, _⟩ := RB9.pos (by omega)
  simp only [Value.slice.injEq, Option.some.injEq, Addr.mk.injEq, and_true, true_and] at hv'
  obtain ⟨rfl, rfl⟩ := hv'
  have cB : w9.cell? ⟨gb, B.length, none⟩ = some (.int .i64 (-2)) := by
    rw [hcellB B.length (by omega), List.getElem?_append_right (by rw [intsL_len]; omega), intsL_len, Nat.sub_self]
    rfl
  have cA := HCA.out B.length (Nat.le_refl _)
  clear hcellA hcellB RA9 RB9
  go_upto_block 2 with fail
  go_cut [7] (fun v1 wx => v1 = .bool true ∧ wx = w9)
  case first =>
    clear cA cB T9
    go_wp2_with fail
    go_loopg [7, 10] B.length (fun gh v1 vi wr => ∃ k, k ≤ B.length ∧ gh = B.length - k ∧ vi = .int .i64 (k : Nat) ∧ v1 = .bool true ∧ wr = w9)
    case atStart => exact ⟨0, by omega, by omega, by go_num, rfl, rfl⟩
    case round =>
      obtain ⟨k, hk, rfl, rfl, rfl, rfl⟩ := hrel
      by_cases hkn : k < B.length
      · have hkI : (k : Int) < (B.length : Int) := by omega
        have hkI1 : (k : Int) + 1 < (B.length : Int) + 1 := by omega
        have hkI2 : (k : Int) < (B.length : Int) + 1 := by omega
        have ck := HCA.out k hk
        go_wp2
        go_roundg (B.length - (k + 1))
        case measure => omega
        case rel => exact ⟨k + 1, by omega, rfl, by go_num, rfl, rfl⟩
      · obtain rfl : k = B.length := by omega
        go_wp2
        go_meet
        exact ⟨rfl, rfl⟩
  case rest =>
  obtain ⟨rfl, rfl⟩ := hcut
  have hbk := fun (wx : World) (h : TdS w o L q M p n B bl T wx) => h
  have T9' := T9
  obtain ⟨o10, P10, F10, S10⟩ := T9'
  have hk1 := blocks_w wc o10 L q n B bl P10 hn1 hn
  have hk2 := refBlocks_w wc o10 M p n B bl F10 hn1 hn
  have hcb := cntB_le bl n
  generalize cntB bl n = cb at hk1 hk2 hcb
  obtain ⟨vr, lI, gi, ci, _, BF, _, _⟩ := F10
  clear P10 S10 hbk HCA
  go_wp2_with fail
  refine hk1.mono ?_
  rintro e w11 ⟨rfl, rfl⟩
  go_wp2_with fail
  refine hk2.mono ?_
  rintro e w12 ⟨rfl, rfl⟩
  clear hk1 hk2 cA cB BF
  go_wp2_with fail
  go_loopg [11] (n + 2) (fun gh vi wr => ∃ k : Nat, k ≤ n + 2 ∧ gh = n + 2 - k ∧ vi = .int .i64 ((k : Int) - 1) ∧ TdS w o L q M p n B bl T wr)
  case atStart => exact ⟨0, by omega, by omega, by go_num, T9⟩
  case round =>
    clear T9
    obtain ⟨k, hk, rfl, rfl, TT⟩ := hrel
    obtain ⟨o1, P1, F1, S1⟩ := TT
    have hb1 := block_any wr o1 L q n ((k : Int) - 1) B bl P1 hn
    have hb2 := refBlock_any wr o1 M p n ((k : Int) - 1) B bl F1 hn
    have TT : TdS w o L q M p n B bl T wr := ⟨o1, P1, F1, S1⟩
    obtain ⟨vr, lI, gi, ci, _, BF, _, _⟩ := F1
    obtain ⟨c0, c1, c2, hf⟩ := BF.cells3
    clear P1 BF
    by_cases hkn : k < n + 2
    · have hkI : (k : Int) - 1 ≤ (n : Int) := by omega
      generalize bA n bl ((k : Int) - 1) = x1 at hb1 hb2
      generalize bE n ((k : Int) - 1) = x2 at hb1 hb2
      obtain ⟨u, hu⟩ : ∃ u : Int, u = (k : Int) - 1 := ⟨_, rfl⟩
      have HU : Hid (u = (k : Int) - 1) := hu
      have hu1 : u + 1 ≤ 66 := by omega
      have hu2 : -1 ≤ u := by omega
      rw [← hu] at hb1 hb2 hkI ⊢
      clear hu S1
      go_wp2_with fail
      refine hb1.mono ?_
      rintro e w2 ⟨rfl, rfl⟩
      go_wp2_with fail
      refine hb2.mono ?_
      rintro e w3 ⟨rfl, rfl⟩
      clear hb1 hb2 c0 c1 c2 hf
      go_wp2_with fail
      go_loopg [16] (n + 2) (fun gh vi wr => ∃ j : Nat, j ≤ n + 2 ∧ gh = n + 2 - j ∧ vi = .int .i64 ((j : Int) - 1) ∧ TdS w o L q M p n B bl T wr)
      case atStart => exact ⟨0, by omega, by omega, by go_num, TT⟩
      case round =>
        clear TT
        obtain ⟨j, hj, rfl, rfl, TT⟩ := hrel
        obtain ⟨o1, P1, F1, S1⟩ := TT
        have hs1 := same_any wr o1 L q n u ((j : Int) - 1) B bl P1 hn
        have hs2 := fun m => refSame_any (wr.drewN m) o1 M p n u ((j : Int) - 1) B bl (F1.step (drewStep (fun _ => False) wr o1 m) (fun _ _ h => h)) hn
        have TT : TdS w o L q M p n B bl T wr := ⟨o1, P1, F1, S1⟩
        obtain ⟨vr, lI, gi, ci, _, BF, _, _⟩ := F1
        obtain ⟨c0, c1, c2, hf⟩ := BF.cells3
        clear P1 BF S1
        by_cases hjn : j < n + 2
        · have hjI : (j : Int) - 1 ≤ (n : Int) := by omega
          generalize sA n bl u ((j : Int) - 1) = y1 at hs1 hs2
          generalize sE n u ((j : Int) - 1) = y2 at hs1 hs2
          obtain ⟨v, hv⟩ : ∃ v : Int, v = (j : Int) - 1 := ⟨_, rfl⟩
          have HJ : Hid (v = (j : Int) - 1) := hv
          have hv1 : v + 1 ≤ 66 := by omega
          have hv2 : -1 ≤ v := by omega
          rw [← hv] at hs1 hs2 hjI ⊢
          clear hv
          go_wp2_with fail
          refine hs1.mono ?_
          rintro e w4 ⟨rfl, m1, rfl⟩
          clear hs1
          go_wp2_with fail
          refine (hs2 m1).mono ?_
          rintro e w5 ⟨rfl, m2, rfl⟩
          have HT : Hid (TdS w o L q M p n B bl T (wr.drewN (m1 + m2))) := TT.drewN (m1 + m2)
          clear hs2 TT c0 c1 c2 hf
          go_wp2
          go_roundg (n + 2 - (j + 1))
          case measure => omega
          case rel => exact ⟨j + 1, by omega, rfl, by rw [HJ.out]; go_num, HT.out⟩
        · have hjI : ¬ ((j : Int) - 1 ≤ (n : Int)) := by omega
          have HT : Hid (TdS w o L q M p n B bl T wr) := TT
          clear TT hs1 hs2
          go_wp2
          go_roundg (n + 2 - (k + 1))
          case measure => omega
          case rel => exact ⟨k + 1, by omega, rfl, by rw [HU.out]; go_num, HT.out⟩
    · have hkI : ¬ ((k : Int) - 1 ≤ (n : Int)) := by omega
      have HF : Hid (ToldOut w o T (.returned (.bool true)) wr) := ⟨o1, rfl, S1⟩
      clear TT hb1 hb2 S1
      go_wp2
      go_ret
      exact HF.out
end Go.Proofs.Ytanahbkkgppfnaa
