/- The law PackLengths, walked: how many bytes a number has, and that the greater one has no fewer. -/
import Derived.Test.YtbpjpdnkebdanabDoorAwake
namespace Go.Proofs.YtbpjpdnkebdanabDoor.packLengths
open Go.ChangeShapes Go.WideShapes Go.ChangeAt Go.RowKit
set_option linter.unusedVariables false

theorem sev_mono (f : Nat) : ∀ r q, r ≤ q → (sev f r).length ≤ (sev f q).length := by
  induction f with
  | zero => intro r q _; simp [sev]
  | succ f ih =>
    intro r q h
    by_cases hr : r < 128
    · rw [sev_last _ _ hr]
      exact (sev_len (f + 1) q).1
    · have := ih (r / 128) (q / 128) (by omega)
      rw [sev_more _ _ hr, sev_more _ _ (by omega)]
      simp
      omega
theorem sevs_mono (u v : Int) (h : u ≤ v) : (sevs u).length ≤ (sevs v).length := sev_mono 9 _ _ (by omega)

set_option maxRecDepth 100000 in
set_option maxHeartbeats 400000 in
theorem part (u v : Int) (w : World) (hT : Tab w) (h1 : 0 ≤ u) (h2 : u < 18446744073709551616) (g1 : 0 ≤ v) (g2 : v < 18446744073709551616)
    (hc : (v < u ∧ ((sevs v).length : Int) ≤ (sevs u).length) ∨ (v = u ∧ ((sevs v).length : Int) = (sevs u).length) ∨ (u < v ∧ ((sevs u).length : Int) ≤ (sevs v).length)) :
    Calls Tryd.prog 4 #[.int .u64 u, .int .u64 v] w fun e w' => e = .returned (.bool true) ∧ Below w.heap.size w w' := by
  have HC := (show Hid _ from hc)
  clear hc
  go_enter Tryd.func4, Tryd.ntmps4
  go_wp2_with fail
  refine (awake_any w hT).mono ?_
  rintro e w1 ⟨rfl, hb1⟩
  go_wp2_with fail
  refine (put_any u _ h1 h2).mono ?_
  rintro e w2 ⟨rfl, hb2⟩
  go_wp2_with fail
  refine (put_any v _ g1 g2).mono ?_
  rintro e w3 ⟨rfl, hb3⟩
  go_wp2
  go_loop [8, 9] (fun n x => ∃ r f c : Nat, n = .int .i64 c ∧ x = .int .u64 r ∧ c + f = 10 ∧ 1 ≤ c ∧ r < 18446744073709551616 ∧ Hid (r < 2 * 128 ^ f) ∧ Hid (c + (sev f r).length = (sevs u).length + 1)) (fun _ x => (intOf x).toNat)
  case atStart =>
    exact ⟨u.toNat, 9, 1, rfl, by rw [Int.toNat_of_nonneg h1], rfl, by omega, by omega, show u.toNat < 2 * 128 ^ 9 by omega, show 1 + (sev 9 u.toNat).length = (sev 9 u.toNat).length + 1 by omega⟩
  case round =>
    obtain ⟨r, f, c, rfl, rfl, hcf, hc1, hr, HB, HL⟩ := hrel
    by_cases hlt : r < 128
    · have hL := HL.out
      rw [sev_last _ _ hlt] at hL
      have hq : (((sevs u).length : Int) == (c : Int)) = true := beq_iff_eq.2 (by simp at hL; omega)
      clear hL
      rcases HC.out with ⟨q1, q2⟩ | ⟨q1, q2⟩ | ⟨q1, q2⟩
      · go_wp2
        go_ret
        exact ⟨ret_bool (by simp; try omega), bjoin (bjoin hb1 hb2) hb3⟩
      · subst q1
        clear q2
        go_wp2
        go_ret
        exact ⟨ret_bool (by simp; try omega), bjoin (bjoin hb1 hb2) hb3⟩
      · go_wp2
        go_ret
        exact ⟨ret_bool (by simp; try omega), bjoin (bjoin hb1 hb2) hb3⟩
    · obtain ⟨g, hfg, hg⟩ := put_step r f HB.out hlt
      have HF : Hid (f = g + 1) := hfg
      have HG : Hid (r / 128 < 2 * 128 ^ g) := hg
      clear hfg hg
      go_wp2
      go_round
      case rel =>
        have hF := HF.out
        have hL := HL.out
        rw [hF, sev_more _ _ hlt] at hL
        refine ⟨r / 128, g, c + 1, by go_num, by go_num, by omega, by omega, by omega, HG, ?_⟩
        show c + 1 + (sev g (r / 128)).length = (sevs u).length + 1
        simp at hL
        omega
      case measure => simp [intOf]; omega

theorem walk (u v : Int) (w : World) (hT : Tab w) (h1 : 0 ≤ u) (h2 : u < 18446744073709551616) (g1 : 0 ≤ v) (g2 : v < 18446744073709551616) :
    Calls Tryd.prog 4 #[.int .u64 u, .int .u64 v] w fun e w' => e = .returned (.bool true) ∧ Below w.heap.size w w' := by
  refine part u v w hT h1 h2 g1 g2 ?_
  by_cases e : v = u
  · subst e; exact Or.inr (Or.inl ⟨rfl, rfl⟩)
  · by_cases l : v < u
    · have := sevs_mono v u (by omega)
      exact Or.inl ⟨l, by omega⟩
    · have := sevs_mono u v (by omega)
      exact Or.inr (Or.inr ⟨by omega, by omega⟩)
end Go.Proofs.YtbpjpdnkebdanabDoor.packLengths
