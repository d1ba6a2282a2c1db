/- The document's own oracle: what it is asked. And the program's, of vertices that are none. -/
import Derived.Test.YtanahbkkgppfnaaRef8M
import Derived.Test.YtanahbkkgppfnaaApp1
import Derived.Test.YtanahbkkgppfnaaOrc
namespace Go.Proofs.Ytanahbkkgppfnaa
open Go.ChangeShapes Go.WideShapes Go.ChangeAt Go.RowKit
set_option linter.unusedVariables false
set_option linter.unusedSimpArgs false

/-- The document's own oracle in memory. -/
def Rf8 (w : World) (o : Nat → Nat) (L q n : Nat) (B : List Nat) (bl : Nat → Nat) : Prop :=
  ∃ vr lI gb cb, (L + 100 ≤ lI ∧ lI ≤ L + 400) ∧ Blk w o (L + 9) q (.cells #[.int .i64 (n : Nat), vr, .slice (some ⟨gb, 0, none⟩) n cb] 45 (0, 0)) ∧ Row w o lI 3 1 vr B.length (intsL B) ∧ Row w o (L + 5) 3 1 (.slice (some ⟨gb, 0, none⟩) n cb) n (natsF bl n)
/-- Its labels. -/
def RL (L : Nat) : Nat → Prop := fun k => L ≤ k ∧ k ≤ L + 500
theorem Rf8.step {I : Nat → Prop} {w w' : World} {o o' : Nat → Nat} {L q n : Nat} {B : List Nat} {bl : Nat → Nat} (h : Rf8 w o L q n B bl) (s : Step I w o w' o') (hi : ∀ k, RL L k → ¬ I k) : Rf8 w' o' L q n B bl := by
  obtain ⟨vr, lI, gb, cb, h0, h1, h2, h3⟩ := h
  exact ⟨vr, lI, gb, cb, h0, h1.step s (hi _ ⟨by omega, by omega⟩), h2.step s (hi _ ⟨by omega, by omega⟩), h3.step s (hi _ ⟨by omega, by omega⟩)⟩
theorem Blk.cells3 {w : World} {o : Nat → Nat} {i b : Nat} {a0 a1 a2 : Value} {t : TypeId} (h : Blk w o i b (.cells #[a0, a1, a2] t (0, 0))) :
    w.cell? ⟨b, 0, none⟩ = some a0 ∧ w.cell? ⟨b, 1, none⟩ = some a1 ∧ w.cell? ⟨b, 2, none⟩ = some a2 ∧ ∀ j, w.frozen? ⟨b, j, none⟩ = false := by
  refine ⟨?_, ?_, ?_, fun j => frozen_of_row w b j _ t h.1⟩ <;> simp [cell_of_row w b _ _ t (0, 0) h.1]
theorem intsL_one (a : List Nat) : ∀ u ∈ intsL a, u.oneCell' = true := fun u hu => by
  simp only [intsL, List.mem_map] at hu
  obtain ⟨s, _, rfl⟩ := hu
  rfl
/-- A stretch of a row of numbers, cell by cell. -/
theorem ints_cells {w : World} {o : Nat → Nat} {i g cap : Nat} {l A M Z : List Nat} (h : Row w o i 3 1 (.slice (some ⟨g, 0, none⟩) l.length cap) l.length (intsL l)) (hl : l = A ++ (M ++ Z)) : ∀ j u, (intsL M)[j]? = some u → w.cell? ((⟨g, A.length, none⟩ : Addr).add j) = some u := by
  intro j u hj
  have hjl := (List.getElem?_eq_some_iff.1 hj).1
  rw [intsL_len] at hjl
  have hll : l.length = A.length + (M.length + Z.length) := by rw [hl]; simp
  obtain ⟨g', cap', hv', _, _, _, _, hcell', _⟩ := h.pos (by omega)
  simp only [Value.slice.injEq, Option.some.injEq, Addr.mk.injEq, and_true, true_and] at hv'
  obtain ⟨rfl, _⟩ := hv'
  have hx : (intsL l)[A.length + j]? = some u := by
    rw [hl, intsL_append, intsL_append, List.getElem?_append_right (by rw [intsL_len]; omega), intsL_len, show A.length + j - A.length = j by omega, List.getElem?_append_left (by rw [intsL_len]; omega)]
    exact hj
  have := hcell' (A.length + j) (by omega)
  rw [hx] at this
  unfold Addr.add
  by_cases j0 : j = 0
  · subst j0; simpa using this
  · simpa [j0] using this
theorem refBridges_w (w : World) (o : Nat → Nat) (L q n lb : Nat) (B : List Nat) (bl : Nat → Nat) (h : Rf8 w o L q n B bl) (hl : B.length ≤ 1000) :
    Calls Try.prog 22 #[.pointer (some ⟨q, 0, none⟩)] w fun e w' => ∃ v' o', e = .returned v' ∧ Row w' o' lb 3 1 v' B.length (intsL B) ∧ Step (fun k => k = lb) w o w' o' := by
  obtain ⟨vr, lI, gb, cb, h0, h1, h2, h3⟩ := h
  obtain ⟨c0, c1, c2, hf⟩ := h1.cells3
  obtain ⟨ii, hii, hzi0, hzi1, hzi2⟩ := info_parts infoInt
  obtain ⟨ar, cr, rfl⟩ := h2.form
  have hnews : 0 < B.length → ∃ ad, ar = some ad ∧ ∀ j u, (intsL B)[j]? = some u → w.cell? (ad.add j) = some u := fun h0 => by
    obtain ⟨g, cap, hv, _⟩ := h2.pos h0
    simp only [Value.slice.injEq, true_and] at hv
    obtain ⟨rfl, rfl⟩ := hv
    exact ⟨_, rfl, ints_cells (A := []) (M := B) (Z := []) h2 (by simp)⟩
  clear h1 h2 h3
  go_enter Try.func22, Try.ntmps22
  go_wp2_with (first | (at_builtin; refine wpList_append_any rfl (.tmp 4) (.tmp 8) 38 rfl 3 ii (.int .i64 0) 1 8 Try.underlying38 hii hzi0 hzi1 hzi2 rfl (by decide) o lb _ 0 [] rfl (Row.nil _ _ _ _ _) ar B.length cr (intsL B) rfl ?c1 hnews (intsL_one B) ?c3 ?c4 ?_) | go_in)
  case c1 => rw [intsL_len]; omega
  case c3 => unfold maxLen; omega
  case c4 => omega
  intro ao cap w7 o7 r7 s7
  have HR : Hid (Row w7 o7 lb 3 1 (.slice ao B.length cap) B.length (intsL B) ∧ Step (fun k => k = lb) w o w7 o7) := by
    refine ⟨?_, s7⟩
    try simp only [Nat.zero_add, List.nil_append] at r7
    exact r7
  clear r7 s7 hnews c0 c1 c2 hf
  go_wp2
  go_ret
  exact ⟨_, o7, rfl, HR.out.1, HR.out.2⟩
theorem refHas_w (w : World) (o : Nat → Nat) (L q n : Nat) (x : Int) (B : List Nat) (bl : Nat → Nat) (h : Rf8 w o L q n B bl) (b : Bool) (hb : b = true ↔ 0 ≤ x ∧ x < (n : Int)) :
    Calls Try.prog 37 #[.pointer (some ⟨q, 0, none⟩), .int .i64 x] w fun e w' => e = .returned (.bool b) ∧ w' = w := by
  obtain ⟨vr, lI, gb, cb, h0, h1, h2, h3⟩ := h
  obtain ⟨c0, c1, c2, hf⟩ := h1.cells3
  clear h1 h2 h3 h0
  by_cases u1 : 0 ≤ x
  · by_cases u2 : x < (n : Int)
    · obtain rfl : b = true := hb.2 ⟨u1, u2⟩
      clear hb
      go_enter Try.func37, Try.ntmps37
      go_wp2
      go_ret
      exact ⟨rfl, rfl⟩
    · obtain rfl : b = false := by cases b with | false => rfl | true => exact absurd (hb.1 rfl).2 u2
      clear hb
      go_enter Try.func37, Try.ntmps37
      go_wp2
      go_ret
      exact ⟨rfl, rfl⟩
  · obtain rfl : b = false := by cases b with | false => rfl | true => exact absurd (hb.1 rfl).1 u1
    clear hb
    go_enter Try.func37, Try.ntmps37
    go_wp2
    go_ret
    exact ⟨rfl, rfl⟩
theorem hasNo_w (w : World) (o : Nat → Nat) (L q n : Nat) (x : Int) (B : List Nat) (bl : Nat → Nat) (h : Or8 w o L q n B bl) (hx : ¬ (0 ≤ x ∧ x < (n : Int))) :
    Calls Try.prog 28 #[.pointer (some ⟨q, 0, none⟩), .int .i64 x] w fun e w' => e = .returned (.bool false) ∧ w' = w := by
  obtain ⟨vr, gb, cb, h1, h2, h3⟩ := h
  obtain ⟨c0, c1, hf⟩ := h1.cells2
  clear h1 h2 h3
  by_cases u1 : 0 ≤ x
  · have u2 : ¬ x < (n : Int) := fun h => hx ⟨u1, h⟩
    clear hx
    go_enter Try.func28, Try.ntmps28
    go_wp2
    go_ret
    exact ⟨rfl, rfl⟩
  · clear hx
    go_enter Try.func28, Try.ntmps28
    go_wp2
    go_ret
    exact ⟨rfl, rfl⟩
theorem blockNo_w (w : World) (o : Nat → Nat) (L q n : Nat) (x : Int) (B : List Nat) (bl : Nat → Nat) (h : Or8 w o L q n B bl) (hx : ¬ (0 ≤ x ∧ x < (n : Int))) :
    Calls Try.prog 12 #[.pointer (some ⟨q, 0, none⟩), .int .i64 x] w fun e w' => e = .returned (.tuple #[.int .i64 0, .int .i64 80]) ∧ w' = w := by
  have hh := hasNo_w w o L q n x B bl h hx
  clear h hx
  go_enter Try.func12, Try.ntmps12
  go_wp2_with fail
  refine hh.mono ?_
  rintro e w' ⟨rfl, rfl⟩
  clear hh
  go_wp2
  go_ret2
  exact ⟨rfl, rfl⟩
theorem sameNo1_w (w : World) (o : Nat → Nat) (L q n : Nat) (x y : Int) (B : List Nat) (bl : Nat → Nat) (h : Or8 w o L q n B bl) (hx : ¬ (0 ≤ x ∧ x < (n : Int))) :
    Calls Try.prog 25 #[.pointer (some ⟨q, 0, none⟩), .int .i64 x, .int .i64 y] w fun e w' => e = .returned (.tuple #[.bool false, .int .i64 80]) ∧ ∃ m, w' = w.drewN m := by
  have hh := hasNo_w w o L q n x B bl h hx
  clear h hx
  go_enter Try.func25, Try.ntmps25
  go_wp2_with fail
  refine hh.mono ?_
  rintro e w' ⟨rfl, rfl⟩
  clear hh
  go_wp2
  go_ret2
  exact ⟨rfl, 0, rfl⟩
theorem sameNo2_w (w : World) (o : Nat → Nat) (L q n x : Nat) (y : Int) (B : List Nat) (bl : Nat → Nat) (h : Or8 w o L q n B bl) (hx : x < n) (hn : n ≤ 64) (hy : ¬ (0 ≤ y ∧ y < (n : Int))) :
    Calls Try.prog 25 #[.pointer (some ⟨q, 0, none⟩), .int .i64 (x : Nat), .int .i64 y] w fun e w' => e = .returned (.tuple #[.bool false, .int .i64 80]) ∧ ∃ m, w' = w.drewN m := by
  have hh := has_w w o L q n x B bl h hx hn
  have hh2 := hasNo_w w o L q n y B bl h hy
  clear h hy
  go_enter Try.func25, Try.ntmps25
  go_wp2_with fail
  refine hh.mono ?_
  rintro e w' ⟨rfl, rfl⟩
  clear hh
  go_wp2_with fail
  refine hh2.mono ?_
  rintro e w' ⟨rfl, rfl⟩
  clear hh2
  go_wp2
  go_ret2
  exact ⟨rfl, 0, rfl⟩
theorem refBlock_w (w : World) (o : Nat → Nat) (L q n x : Nat) (B : List Nat) (bl : Nat → Nat) (h : Rf8 w o L q n B bl) (hx : x < n) (hn : n ≤ 64) :
    Calls Try.prog 24 #[.pointer (some ⟨q, 0, none⟩), .int .i64 (x : Nat)] w fun e w' => e = .returned (.tuple #[.int .i64 (bl x : Nat), .int .i64 0]) ∧ w' = w := by
  have hh := refHas_w w o L q n x B bl h true ⟨fun _ => ⟨by omega, by omega⟩, fun _ => rfl⟩
  obtain ⟨vr, lI, gb, cb, h0, h1, h2, h3⟩ := h
  obtain ⟨c0, c1, c2, hf⟩ := h1.cells3
  obtain ⟨g, cap, hv', hg, hc, hm, hlt, hcell, hfr⟩ := h3.pos (by omega)
  simp only [Value.slice.injEq, Option.some.injEq, Addr.mk.injEq, and_true, true_and] at hv'
  obtain ⟨rfl, rfl⟩ := hv'
  have k0 := (hcell x (by omega)).trans (natsF_get bl hx)
  have hxI : (x : Int) < (n : Int) := by omega
  generalize bl x = b at k0
  clear h1 h2 h3 hcell
  go_enter Try.func24, Try.ntmps24
  go_wp2_with fail
  refine hh.mono ?_
  rintro e w' ⟨rfl, rfl⟩
  clear hh
  go_wp2
  go_ret2
  exact ⟨rfl, rfl⟩
theorem refBlockNo_w (w : World) (o : Nat → Nat) (L q n : Nat) (x : Int) (B : List Nat) (bl : Nat → Nat) (h : Rf8 w o L q n B bl) (hx : ¬ (0 ≤ x ∧ x < (n : Int))) :
    Calls Try.prog 24 #[.pointer (some ⟨q, 0, none⟩), .int .i64 x] w fun e w' => e = .returned (.tuple #[.int .i64 0, .int .i64 80]) ∧ w' = w := by
  have hh := refHas_w w o L q n x B bl h false ⟨fun h => (by cases h), fun h => absurd h hx⟩
  clear h hx
  go_enter Try.func24, Try.ntmps24
  go_wp2_with fail
  refine hh.mono ?_
  rintro e w' ⟨rfl, rfl⟩
  clear hh
  go_wp2
  go_ret2
  exact ⟨rfl, rfl⟩
theorem refSame_w (w : World) (o : Nat → Nat) (L q n x y : Nat) (B : List Nat) (bl : Nat → Nat) (h : Rf8 w o L q n B bl) (hx : x < n) (hy : y < n) (hn : n ≤ 64) :
    Calls Try.prog 26 #[.pointer (some ⟨q, 0, none⟩), .int .i64 (x : Nat), .int .i64 (y : Nat)] w fun e w' => e = .returned (.tuple #[.bool (decide (bl x = bl y)), .int .i64 0]) ∧ ∃ m, w' = w.drewN m := by
  have hh := refHas_w w o L q n x B bl h true ⟨fun _ => ⟨by omega, by omega⟩, fun _ => rfl⟩
  have hh2 := refHas_w w o L q n y B bl h true ⟨fun _ => ⟨by omega, by omega⟩, fun _ => rfl⟩
  obtain ⟨vr, lI, gb, cb, h0, h1, h2, h3⟩ := h
  obtain ⟨c0, c1, c2, hf⟩ := h1.cells3
  obtain ⟨g, cap, hv', hg, hc, hm, hlt, hcell, hfr⟩ := h3.pos (by omega)
  simp only [Value.slice.injEq, Option.some.injEq, Addr.mk.injEq, and_true, true_and] at hv'
  obtain ⟨rfl, rfl⟩ := hv'
  have k0 := (hcell x (by omega)).trans (natsF_get bl hx)
  have k1 := (hcell y (by omega)).trans (natsF_get bl hy)
  have hxI : (x : Int) < (n : Int) := by omega
  have hyI : (y : Int) < (n : Int) := by omega
  have hd : decide (bl x = bl y) = ((bl x : Int) == (bl y : Int)) := by
    by_cases q : bl x = bl y
    · rw [q]; simp
    · have h2 : ((bl x : Int) == (bl y : Int)) = false := by simp only [beq_eq_false_iff_ne, ne_eq]; omega
      rw [h2]; simp [q]
  rw [hd]
  generalize bl x = b at k0
  generalize bl y = c at k1
  clear h1 h2 h3 hcell hd h0
  go_enter Try.func26, Try.ntmps26
  go_wp2_with fail
  refine hh.mono ?_
  rintro e w' ⟨rfl, rfl⟩
  clear hh
  go_wp2_with fail
  refine hh2.mono ?_
  rintro e w' ⟨rfl, rfl⟩
  clear hh2
  go_wp2_with fail
  go_quiet (fail)
  go_wp2
  go_ret2
  exact ⟨rfl, _, rfl⟩
theorem refSameNo_w (w : World) (o : Nat → Nat) (L q n : Nat) (x y : Int) (B : List Nat) (bl : Nat → Nat) (h : Rf8 w o L q n B bl) (hx : ¬ (0 ≤ x ∧ x < (n : Int)) ∨ ¬ (0 ≤ y ∧ y < (n : Int))) :
    Calls Try.prog 26 #[.pointer (some ⟨q, 0, none⟩), .int .i64 x, .int .i64 y] w fun e w' => e = .returned (.tuple #[.bool false, .int .i64 80]) ∧ ∃ m, w' = w.drewN m := by
  by_cases h1 : 0 ≤ x ∧ x < (n : Int)
  · have h2 : ¬ (0 ≤ y ∧ y < (n : Int)) := hx.elim (fun q => absurd h1 q) id
    have hh := refHas_w w o L q n x B bl h true ⟨fun _ => h1, fun _ => rfl⟩
    have hh2 := refHas_w w o L q n y B bl h false ⟨fun h => (by cases h), fun h => absurd h h2⟩
    clear h hx h1 h2
    go_enter Try.func26, Try.ntmps26
    go_wp2_with fail
    refine hh.mono ?_
    rintro e w' ⟨rfl, rfl⟩
    clear hh
    go_wp2_with fail
    refine hh2.mono ?_
    rintro e w' ⟨rfl, rfl⟩
    clear hh2
    go_wp2
    go_ret2
    exact ⟨rfl, 0, rfl⟩
  · have hh := refHas_w w o L q n x B bl h false ⟨fun h => (by cases h), fun h => absurd h h1⟩
    obtain ⟨b, hb⟩ : ∃ b : Bool, b = true ↔ 0 ≤ y ∧ y < (n : Int) := ⟨decide (0 ≤ y ∧ y < (n : Int)), by simp⟩
    have hh2 := refHas_w w o L q n y B bl h b hb
    clear h hx h1 hb
    go_enter Try.func26, Try.ntmps26
    go_wp2_with fail
    refine hh.mono ?_
    rintro e w' ⟨rfl, rfl⟩
    clear hh
    go_wp2_with fail
    refine hh2.mono ?_
    rintro e w' ⟨rfl, rfl⟩
    clear hh2
    go_wp2
    go_ret2
    exact ⟨rfl, 0, rfl⟩
theorem refBlocks_w (w : World) (o : Nat → Nat) (L q n : Nat) (B : List Nat) (bl : Nat → Nat) (h : Rf8 w o L q n B bl) (hn1 : 1 ≤ n) (hn : n ≤ 64) :
    Calls Try.prog 23 #[.pointer (some ⟨q, 0, none⟩)] w fun e w' => e = .returned (.int .i64 (cntB bl n : Nat)) ∧ w' = w := by
  obtain ⟨vr, lI, gb, cb, h0, h1, h2, h3⟩ := h
  obtain ⟨c0, c1, c2, hf⟩ := h1.cells3
  obtain ⟨g, cap, hv', hg, hc, hm, hlt, hcell, hfr⟩ := h3.pos (by omega)
  simp only [Value.slice.injEq, Option.some.injEq, Addr.mk.injEq, and_true, true_and] at hv'
  obtain ⟨rfl, rfl⟩ := hv'
  have HC : Hid (∀ x, x < n → w.cell? ⟨gb, x, none⟩ = some (.int .i64 (bl x : Nat))) := fun x hx => (hcell x (by omega)).trans (natsF_get bl hx)
  clear h1 h2 h3 hcell h0
  go_enter Try.func23, Try.ntmps23
  go_wp2
  go_loopw [3, 4] (fun vm vi wr => ∃ k : Nat, k ≤ n ∧ vi = .int .i64 (k : Nat) ∧ vm = .int .i64 (cntB bl k : Nat) ∧ wr = w) (fun _ vi _ => n - (intOf vi).toNat)
  case atStart => exact ⟨0, by omega, by go_num, by simp [cntB, sumN], rfl⟩
  case round =>
    obtain ⟨k, hk, rfl, rfl, rfl⟩ := hrel
    have hle := cntB_le bl k
    by_cases hlt2 : k < n
    · have ck := HC.out k hlt2
      have hkI : (k : Int) < (n : Int) := by omega
      by_cases hq : k = bl k
      · have HN : Hid (cntB bl (k + 1) = cntB bl k + 1) := (show cntB bl k + (if k = bl k then 1 else 0) = _ from by rw [if_pos hq])
        rw [← hq] at ck
        clear hq
        generalize cntB bl k = m at HN hle
        go_wp2
        go_roundw
        case rel => (try ((repeat apply Exists.intro); refine ⟨?_, rfl⟩)); exact ⟨k + 1, by omega, by go_num, by rw [HN.out]; go_num, by trivial⟩
        case measure => simp [intOf]; omega
      · have HN : Hid (cntB bl (k + 1) = cntB bl k) := (show cntB bl k + (if k = bl k then 1 else 0) = _ from by rw [if_neg hq]; rfl)
        generalize bl k = bk at ck hq
        have hqb : ((bk : Int) == (k : Int)) = false := by simp only [beq_eq_false_iff_ne, ne_eq]; omega
        generalize cntB bl k = m at HN hle
        go_wp2
        go_roundw
        case rel => (try ((repeat apply Exists.intro); refine ⟨?_, rfl⟩)); exact ⟨k + 1, by omega, by go_num, by rw [HN.out], by trivial⟩
        case measure => simp [intOf]; omega
    · obtain rfl : k = n := by omega
      go_wp2
      go_ret
      exact ⟨rfl, rfl⟩
end Go.Proofs.Ytanahbkkgppfnaa
