/- What the laws of package vset ask by themselves: which of n things a number speaks of; are two lists of numbers the same. -/
import Derived.Test.YtmpkhbblakfglaaDoorFamC
namespace Go.Proofs.YtmpkhbblakfglaaDoor
open Go.ChangeShapes Go.WideShapes Go.ChangeAt Go.RowKit Go.Maps
set_option linter.unusedVariables false

/-- Which of n things c speaks of. -/
def pk (c : Int) (n : Nat) : Nat := (if c < 0 then -(c + 1) else c).toNat % n
theorem pk_lt (c : Int) (n : Nat) (h : 0 < n) : pk c n < n := Nat.mod_lt _ h
theorem tmod_toNat (c : Int) (n : Nat) (h : 0 ≤ c) : c.tmod (n : Int) = ((c.toNat % n : Nat) : Int) := by
  obtain ⟨k, rfl⟩ := Int.eq_ofNat_of_zero_le h
  rw [Int.tmod_eq_emod_of_nonneg (by omega)]
  simp
theorem pick_c (c : Int) (n : Nat) (w : World) (h1 : -9223372036854775808 ≤ c) (h2 : c ≤ 9223372036854775807) (hn : 0 < n) (hn2 : n ≤ 1000) :
    Calls Tryd.prog 20 #[.int .i64 c, .int .i64 (n : Nat)] w fun e w' => e = .returned (.int .i64 (pk c n : Nat)) ∧ w' = w := by
  have n0 : ((n : Int) == 0) = false := by simp; omega
  have n1 : ¬ (n : Int) = 0 := by omega
  have n2 : ¬ (n : Int) = -1 := by omega
  by_cases h : c < 0
  · have e1 : IntKind.i64.wrap (c + 1) = c + 1 := by rw [IntKind.wrap_i64]; omega
    have e2 : IntKind.i64.wrap (-(c + 1)) = -(c + 1) := by rw [IntKind.wrap_i64]; omega
    have e3 : (-(c + 1)).tmod (n : Int) = ((pk c n : Nat) : Int) := by
      unfold pk
      rw [if_pos h]
      exact tmod_toNat _ _ (by omega)
    have e4 : IntKind.i64.wrap ((pk c n : Nat) : Int) = ((pk c n : Nat) : Int) := by have := pk_lt c n hn; rw [IntKind.wrap_i64]; omega
    go_enter Tryd.func20, Tryd.ntmps20
    go_wp2
    go_ret
    exact ⟨rfl, rfl⟩
  · have e3 : c.tmod (n : Int) = ((pk c n : Nat) : Int) := by
      unfold pk
      rw [if_neg h]
      exact tmod_toNat _ _ (by omega)
    have e4 : IntKind.i64.wrap ((pk c n : Nat) : Int) = ((pk c n : Nat) : Int) := by have := pk_lt c n hn; rw [IntKind.wrap_i64]; omega
    go_enter Tryd.func20, Tryd.ntmps20
    go_wp2
    go_ret
    exact ⟨rfl, rfl⟩
set_option maxHeartbeats 1000000 in
theorem same_c (w : World) (a b : Option Addr) (n ca cb : Nat) (f : Nat → Int) (ha : Ints w a n f) (hb : Ints w b n f) (hn : n ≤ maxLen) :
    Calls Tryd.prog 9 #[.slice a n ca, .slice b n cb] w fun e w' => e = .returned (.bool true) ∧ Below w.heap.size w w' := by
  unfold maxLen at hn
  go_enter Tryd.func9, Tryd.ntmps9
  go_wp2
  go_loopw [5] (fun v wr => ∃ k m : Nat, k ≤ n ∧ v = .int .i64 (k : Nat) ∧ wr = w.drewN m) (fun v _ => n - (intOf v).toNat)
  case atStart => exact ⟨0, 0, by omega, by go_num, rfl⟩
  case round =>
    obtain ⟨k, m, hk, rfl, rfl⟩ := hrel
    by_cases hlt : k < n
    · obtain ⟨b1, off1, rfl, _, c1, _⟩ := ha k hlt
      obtain ⟨b2, off2, rfl, _, c2, _⟩ := hb k hlt
      have hkI : (k : Int) < (n : Int) := by omega
      generalize f k = x at c1 c2
      clear ha hb
      go_wp2
      go_quiet (fail)
      rename_i nq
      go_wp2
      go_roundw
      case rel => (try ((repeat apply Exists.intro); refine ⟨?_, rfl⟩)); exact ⟨k + 1, m + nq, by omega, by go_num, by first | trivial | rw [World.drewN_drewN] | simp⟩
      case measure => simp [intOf]; omega
    · obtain rfl : k = n := by omega
      clear ha hb
      go_wp2
      go_ret
      exact ⟨rfl, bdr (b0 _) _⟩
/-- A row of numbers, as they are read. -/
theorem Row.ints {w : World} {o : Nat → Nat} {i : Nat} {v : Value} {l : List Nat} (h : Row w o i 3 1 v l.length (intsL l)) (hb : ∀ x, x ∈ l → x ≤ 1000) : ∃ ao cap, v = .slice ao l.length cap ∧ Ints w ao l.length (fun j => (l.getD j 0 : Nat)) := by
  by_cases h0 : 0 < l.length
  · obtain ⟨g, cap, rfl, hg, hc, hm, hlt, hcell, hfr⟩ := h.pos h0
    refine ⟨_, cap, rfl, fun j hj => ⟨g, 0, rfl, hlt, ?_, ?_, ?_⟩⟩
    · rw [Nat.zero_add, hcell j (by omega), intsL_get l j hj]
      simp [List.getD, List.getElem?_eq_getElem hj]
    · show (-9223372036854775808 : Int) ≤ ((l.getD j 0 : Nat) : Int)
      omega
    · have := hb (l.getD j 0) (by simp [List.getD, List.getElem?_eq_getElem hj])
      show ((l.getD j 0 : Nat) : Int) ≤ 9223372036854775807
      omega
  · obtain ⟨ao, cap, rfl⟩ := h.form
    exact ⟨ao, cap, rfl, fun j hj => by omega⟩
end Go.Proofs.YtmpkhbblakfglaaDoor
