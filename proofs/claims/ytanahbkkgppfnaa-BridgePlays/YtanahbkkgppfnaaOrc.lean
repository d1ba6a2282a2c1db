/- What an oracle is asked. -/
import Derived.Test.YtanahbkkgppfnaaAns8
namespace Go.Proofs.Ytanahbkkgppfnaa
open Go.ChangeShapes Go.WideShapes Go.ChangeAt Go.RowKit
set_option linter.unusedVariables false

theorem bridges_w (w : World) (o : Nat → Nat) (L q n lb : Nat) (B : List Nat) (bl : Nat → Nat) (h : Or8 w o L q n B bl) (hl : B.length ≤ 1000) :
    Calls Try.prog 11 #[.pointer (some ⟨q, 0, none⟩)] w fun e w' => ∃ v' o', e = .returned v' ∧ Row w' o' lb 3 1 v' B.length (intsL B) ∧ Step (fun k => k = lb) w o w' o' := by
  obtain ⟨vr, gb, cb, h1, h2, h3⟩ := h
  obtain ⟨c0, c1, hf⟩ := h1.cells2
  have hc := clone_w w o (L + 4) lb vr B h2 hl
  clear h1 h2 h3
  go_enter Try.func11, Try.ntmps11
  go_wp2_with fail
  refine hc.mono ?_
  rintro e w' ⟨v', o', rfl, r, s⟩
  have HS : Hid (Row w' o' lb 3 1 v' B.length (intsL B) ∧ Step (fun k => k = lb) w o w' o') := ⟨r, s⟩
  clear r s hc
  go_wp2
  go_ret
  exact ⟨_, o', rfl, HS.out.1, HS.out.2⟩
theorem has_w (w : World) (o : Nat → Nat) (L q n x : Nat) (B : List Nat) (bl : Nat → Nat) (h : Or8 w o L q n B bl) (hx : x < n) (hn : n ≤ 64) :
    Calls Try.prog 28 #[.pointer (some ⟨q, 0, none⟩), .int .i64 (x : Nat)] w fun e w' => e = .returned (.bool true) ∧ w' = w := by
  obtain ⟨vr, gb, cb, h1, h2, h3⟩ := h
  obtain ⟨c0, c1, hf⟩ := h1.cells2
  have hxI : (x : Int) < (n : Int) := by omega
  clear h1 h2 h3
  go_enter Try.func28, Try.ntmps28
  go_wp2
  go_ret
  exact ⟨rfl, rfl⟩
theorem block_w (w : World) (o : Nat → Nat) (L q n x : Nat) (B : List Nat) (bl : Nat → Nat) (h : Or8 w o L q n B bl) (hx : x < n) (hn : n ≤ 64) :
    Calls Try.prog 12 #[.pointer (some ⟨q, 0, none⟩), .int .i64 (x : Nat)] w fun e w' => e = .returned (.tuple #[.int .i64 (bl x : Nat), .int .i64 0]) ∧ w' = w := by
  have hh := has_w w o L q n x B bl h hx hn
  obtain ⟨vr, gb, cb, h1, h2, h3⟩ := h
  obtain ⟨c0, c1, hf⟩ := h1.cells2
  obtain ⟨g, cap, hv', hg, hc, hm, hlt, hcell, hfr⟩ := h3.pos (by omega)
  simp only [Value.slice.injEq, Option.some.injEq, Addr.mk.injEq, and_true, true_and] at hv'
  obtain ⟨rfl, rfl⟩ := hv'
  have k0 := (hcell x (by omega)).trans (natsF_get bl hx)
  have hxI : (x : Int) < (n : Int) := by omega
  generalize bl x = b at k0
  clear h1 h2 h3 hcell
  go_enter Try.func12, Try.ntmps12
  go_wp2_with fail
  refine hh.mono ?_
  rintro e w' ⟨rfl, rfl⟩
  clear hh
  go_wp2
  go_ret2
  exact ⟨rfl, rfl⟩
theorem sameO_w (w : World) (o : Nat → Nat) (L q n x y : Nat) (B : List Nat) (bl : Nat → Nat) (h : Or8 w o L q n B bl) (hx : x < n) (hy : y < n) (hn : n ≤ 64) :
    Calls Try.prog 25 #[.pointer (some ⟨q, 0, none⟩), .int .i64 (x : Nat), .int .i64 (y : Nat)] w fun e w' => e = .returned (.tuple #[.bool (decide (bl x = bl y)), .int .i64 0]) ∧ ∃ m, w' = w.drewN m := by
  have hh := has_w w o L q n x B bl h hx hn
  have hh2 := has_w w o L q n y B bl h hy hn
  obtain ⟨vr, gb, cb, h1, h2, h3⟩ := h
  obtain ⟨c0, c1, hf⟩ := h1.cells2
  obtain ⟨g, cap, hv', hg, hc, hm, hlt, hcell, hfr⟩ := h3.pos (by omega)
  simp only [Value.slice.injEq, Option.some.injEq, Addr.mk.injEq, and_true, true_and] at hv'
  obtain ⟨rfl, rfl⟩ := hv'
  have k0 := (hcell x (by omega)).trans (natsF_get bl hx)
  have k1 := (hcell y (by omega)).trans (natsF_get bl hy)
  have hxI : (x : Int) < (n : Int) := by omega
  have hyI : (y : Int) < (n : Int) := by omega
  have hd : decide (bl x = bl y) = ((bl x : Int) == (bl y : Int)) := by
    by_cases q : bl x = bl y
    · rw [q]; simp
    · have h2 : ((bl x : Int) == (bl y : Int)) = false := by simp only [beq_eq_false_iff_ne, ne_eq]; omega
      rw [h2]; simp [q]
  rw [hd]
  generalize bl x = b at k0
  generalize bl y = c at k1
  clear h1 h2 h3 hcell hd
  go_enter Try.func25, Try.ntmps25
  go_wp2_with fail
  refine hh.mono ?_
  rintro e w' ⟨rfl, rfl⟩
  clear hh
  go_wp2_with fail
  refine hh2.mono ?_
  rintro e w' ⟨rfl, rfl⟩
  clear hh2
  go_wp2_with fail
  go_quiet (fail)
  go_wp2
  go_ret2
  exact ⟨rfl, _, rfl⟩
/-- How many blocks there are. -/
def cntB (bl : Nat → Nat) (n : Nat) : Nat := sumN (fun v => if v = bl v then 1 else 0) n
theorem cntB_le (bl : Nat → Nat) : ∀ n, cntB bl n ≤ n
  | 0 => Nat.le_refl _
  | n + 1 => by
    have := cntB_le bl n
    unfold cntB at this ⊢
    simp only [sumN]
    split <;> omega
theorem blocks_w (w : World) (o : Nat → Nat) (L q n : Nat) (B : List Nat) (bl : Nat → Nat) (h : Or8 w o L q n B bl) (hn1 : 1 ≤ n) (hn : n ≤ 64) :
    Calls Try.prog 13 #[.pointer (some ⟨q, 0, none⟩)] w fun e w' => e = .returned (.int .i64 (cntB bl n : Nat)) ∧ w' = w := by
  obtain ⟨vr, gb, cb, h1, h2, h3⟩ := h
  obtain ⟨c0, c1, hf⟩ := h1.cells2
  obtain ⟨g, cap, hv', hg, hc, hm, hlt, hcell, hfr⟩ := h3.pos (by omega)
  simp only [Value.slice.injEq, Option.some.injEq, Addr.mk.injEq, and_true, true_and] at hv'
  obtain ⟨rfl, rfl⟩ := hv'
  have HC : Hid (∀ x, x < n → w.cell? ⟨gb, x, none⟩ = some (.int .i64 (bl x : Nat))) := fun x hx => (hcell x (by omega)).trans (natsF_get bl hx)
  clear h1 h2 h3 hcell
  go_enter Try.func13, Try.ntmps13
  go_wp2
  go_loopw [3, 11] (fun vm vi wr => ∃ k : Nat, k ≤ n ∧ vi = .int .i64 (k : Nat) ∧ vm = .int .i64 (cntB bl k : Nat) ∧ wr = w) (fun _ vi _ => n - (intOf vi).toNat)
  case atStart => exact ⟨0, by omega, by go_num, by simp [cntB, sumN], rfl⟩
  case round =>
    obtain ⟨k, hk, rfl, rfl, rfl⟩ := hrel
    have hle := cntB_le bl k
    by_cases hlt2 : k < n
    · have ck := HC.out k hlt2
      have hkI : (k : Int) < (n : Int) := by omega
      by_cases hq : k = bl k
      · have HN : Hid (cntB bl (k + 1) = cntB bl k + 1) := (show cntB bl k + (if k = bl k then 1 else 0) = _ from by rw [if_pos hq])
        rw [← hq] at ck
        clear hq
        generalize cntB bl k = m at HN hle
        go_wp2
        go_roundw
        case rel => (try ((repeat apply Exists.intro); refine ⟨?_, rfl⟩)); exact ⟨k + 1, by omega, by go_num, by rw [HN.out]; go_num, by trivial⟩
        case measure => simp [intOf]; omega
      · have HN : Hid (cntB bl (k + 1) = cntB bl k) := (show cntB bl k + (if k = bl k then 1 else 0) = _ from by rw [if_neg hq]; rfl)
        generalize bl k = bk at ck hq
        have hqb : ((k : Int) == (bk : Int)) = false := by simp only [beq_eq_false_iff_ne, ne_eq]; omega
        generalize cntB bl k = m at HN hle
        go_wp2
        go_roundw
        case rel => (try ((repeat apply Exists.intro); refine ⟨?_, rfl⟩)); exact ⟨k + 1, by omega, by go_num, by rw [HN.out], by trivial⟩
        case measure => simp [intOf]; omega
    · obtain rfl : k = n := by omega
      go_wp2
      go_ret
      exact ⟨rfl, rfl⟩
end Go.Proofs.Ytanahbkkgppfnaa
