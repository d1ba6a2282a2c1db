/- The law's own small functions. -/
import Derived.Test.YtffmlffhiimmdaaAll7
namespace Go.Proofs.Ytffmlffhiimmdaa
open Go.ChangeShapes Go.WideShapes Go.ChangeAt Go.RowKit
set_option linter.unusedVariables false

theorem pick_any (c : Int) (n : Nat) (w : World) (h1 : -9223372036854775808 ≤ c) (h2 : c ≤ 9223372036854775807) (hn : 0 < n) (hn2 : n ≤ 9223372036854775807) :
    Calls Try.prog 14 #[.int .i64 c, .int .i64 n] w fun e w' => ∃ r : Nat, r < n ∧ e = .returned (.int .i64 r) ∧ w' = w := by
  have hz : ((n : Int) == 0) = false := by simp only [beq_eq_false_iff_ne, ne_eq]; omega
  have hm1 : ((n : Int) == -1) = false := by simp only [beq_eq_false_iff_ne, ne_eq]; omega
  by_cases hc : c < 0
  · go_enter Try.func14, Try.ntmps14
    go_wp2
    go_ret
    have e1 : (-((c + 1).tmod n) : Int) = (-(c + 1)) % n := by rw [← Int.neg_tmod, Int.tmod_eq_emod_of_nonneg (by omega)]
    have e2 := Int.emod_nonneg (-(c + 1)) (show (n : Int) ≠ 0 by omega)
    have e3 := Int.emod_lt_of_pos (-(c + 1)) (show (0 : Int) < n by omega)
    exact ⟨((-(c + 1)) % (n : Int)).toNat, by omega, ret_int (by omega), rfl⟩
  · go_enter Try.func14, Try.ntmps14
    go_wp2
    go_ret
    have e2 := Int.emod_nonneg c (show (n : Int) ≠ 0 by omega)
    have e3 := Int.emod_lt_of_pos c (show (0 : Int) < n by omega)
    exact ⟨(c % (n : Int)).toNat, by omega, ret_int (by omega), rfl⟩



theorem same_true (w : World) (o o2 : Nat → Nat) (i j : Nat) (va vb : Value) (xs : List Nat) (ha : Vw w o i va xs) (hb : Vw w o2 j vb xs) (hl : xs.length ≤ 4096) :
    Calls Try.prog 24 #[va, vb] w fun e w' => e = .returned (.bool true) ∧ ∃ m, w' = w.drewN m := by
  obtain ⟨aa, ca, rfl, hca, hma, hpa⟩ := ha
  obtain ⟨ab, cb, rfl, hcb, hmb, hpb⟩ := hb
  unfold maxLen at hma hmb
  go_enter Try.func24, Try.ntmps24
  go_wp2
  go_loopw [5] (fun v wr => ∃ k : Nat, k ≤ xs.length ∧ v = .int .i64 (k : Nat) ∧ ∃ m, wr = w.drewN m) (fun v _ => xs.length - (intOf v).toNat)
  case atStart => exact ⟨0, by omega, by go_num, 0, rfl⟩
  case round =>
    obtain ⟨k, hk, rfl, m, rfl⟩ := hrel
    by_cases hlt : k < xs.length
    · obtain ⟨ga, fa, rfl, _, _, hcella⟩ := hpa (by omega)
      obtain ⟨gb, fb, rfl, _, _, hcellb⟩ := hpb (by omega)
      have c1 := hcella k hlt
      have c2 := hcellb k hlt
      obtain ⟨x, hx⟩ : ∃ x, x = xs[k] := ⟨_, rfl⟩
      rw [← hx] at c1 c2
      clear hpa hpb hcella hcellb hx
      go_wp2
      go_quiet (fail)
      go_wp2
      go_roundw
      case rel => (try ((repeat apply Exists.intro); refine ⟨?_, rfl⟩)); exact ⟨k + 1, by omega, by go_num, _, rfl⟩
      case measure => simp [intOf]; omega
    · obtain rfl : k = xs.length := by omega
      clear hpa hpb
      go_wp2
      go_ret
      exact ⟨rfl, m, rfl⟩


set_option maxRecDepth 100000
/-- Which one a raw number speaks of. -/
def pkN (c : Int) (n : Nat) : Nat := if c < 0 then ((-(c + 1)) % (n : Int)).toNat else (c % (n : Int)).toNat
theorem pkN_lt (c : Int) (n : Nat) (hn : 0 < n) : pkN c n < n := by
  unfold pkN
  split
  · have e2 := Int.emod_nonneg (-(c + 1)) (show (n : Int) ≠ 0 by omega)
    have e3 := Int.emod_lt_of_pos (-(c + 1)) (show (0 : Int) < n by omega)
    omega
  · have e2 := Int.emod_nonneg c (show (n : Int) ≠ 0 by omega)
    have e3 := Int.emod_lt_of_pos c (show (0 : Int) < n by omega)
    omega
theorem pick_is (c : Int) (n : Nat) (w : World) (h1 : -9223372036854775808 ≤ c) (h2 : c ≤ 9223372036854775807) (hn : 0 < n) (hn2 : n ≤ 9223372036854775807) :
    Calls Try.prog 14 #[.int .i64 c, .int .i64 n] w fun e w' => e = .returned (.int .i64 (pkN c n)) ∧ w' = w := by
  have hz : ((n : Int) == 0) = false := by simp only [beq_eq_false_iff_ne, ne_eq]; omega
  have hm1 : ((n : Int) == -1) = false := by simp only [beq_eq_false_iff_ne, ne_eq]; omega
  by_cases hc : c < 0
  · have hp : pkN c n = ((-(c + 1)) % (n : Int)).toNat := by unfold pkN; rw [if_pos hc]
    rw [hp]
    clear hp
    go_enter Try.func14, Try.ntmps14
    go_wp2
    go_ret
    have e1 : (-((c + 1).tmod n) : Int) = (-(c + 1)) % n := by rw [← Int.neg_tmod, Int.tmod_eq_emod_of_nonneg (by omega)]
    have e2 := Int.emod_nonneg (-(c + 1)) (show (n : Int) ≠ 0 by omega)
    have e3 := Int.emod_lt_of_pos (-(c + 1)) (show (0 : Int) < n by omega)
    exact ⟨ret_int (by omega), rfl⟩
  · have hp : pkN c n = (c % (n : Int)).toNat := by unfold pkN; rw [if_neg hc]
    rw [hp]
    clear hp
    go_enter Try.func14, Try.ntmps14
    go_wp2
    go_ret
    have e1 : (c.tmod n : Int) = c % n := Int.tmod_eq_emod_of_nonneg (by omega)
    have e2 := Int.emod_nonneg c (show (n : Int) ≠ 0 by omega)
    have e3 := Int.emod_lt_of_pos c (show (0 : Int) < n by omega)
    exact ⟨ret_int (by omega), rfl⟩


theorem Step.posM {w w' : World} {o o' : Nat → Nat} {L : Nat} (s : Step (ML L) w o w' o') (h : 0 < L) : Step Pos w o w' o' := s.mono fun k hk => Nat.lt_of_lt_of_le h hk.1
theorem Ids.perm {ed : Nat → Option Ed} {l l' : List Nat} (h : Ids ed l) (h' : Ids ed l') : l.Perm l' := (List.perm_ext_iff_of_nodup h.1 h'.1).2 fun a => (h.2 a).trans (h'.2 a).symm
theorem sum_perm {l l' : List Nat} (f : Nat → Int) (h : l.Perm l') : (l.map f).sum = (l'.map f).sum := by
  induction h with
  | nil => rfl
  | cons x _ ih => simp [ih]
  | swap x y l => simp; omega
  | trans _ _ ih1 ih2 => exact ih1.trans ih2
theorem sorted_eq : ∀ {l l' : List Nat}, l.Perm l' → l.Pairwise (· < ·) → l'.Pairwise (· < ·) → l = l'
  | [], l', h, _, _ => (List.nil_perm.1 h).symm
  | a :: l, [], h, _, _ => absurd h.length_eq (by simp)
  | a :: l, b :: l', h, h1, h2 => by
    have p1 := List.pairwise_cons.1 h1
    have p2 := List.pairwise_cons.1 h2
    have e : a = b := by
      rcases List.mem_cons.1 (h.mem_iff.1 (List.mem_cons_self)) with q | q
      · exact q
      · rcases List.mem_cons.1 (h.mem_iff.2 (List.mem_cons_self)) with r | r
        · exact r.symm
        · have := p2.1 a q; have := p1.1 b r; omega
    subst e
    rw [sorted_eq (List.perm_cons a |>.1 h) p1.2 p2.2]
theorem Ids.eq {ed : Nat → Option Ed} {l l' : List Nat} (h : Ids ed l) (h' : Ids ed l') (s : l.Pairwise (· < ·)) (s' : l'.Pairwise (· < ·)) : l = l' := sorted_eq (h.perm h') s s'

end Go.Proofs.Ytffmlffhiimmdaa
