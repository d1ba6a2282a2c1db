/- How many components there are. -/
import Derived.Test.YtkhjodihlkfkdaaCountM
import Derived.Test.YtkhjodihlkfkdaaHoldsM
namespace Go.Proofs.Ytkhjodihlkfkdaa
open Go.ChangeShapes Go.WideShapes Go.ChangeAt Go.RowKit
set_option linter.unusedVariables false

theorem cntP_le (b : Nat → Nat) : ∀ n, cntP b n ≤ n
  | 0 => Nat.le_refl _
  | n + 1 => by
    have := cntP_le b n
    unfold cntP at this ⊢
    simp only [sumN]
    split <;> omega
def PwOut (w : World) (o : Nat → Nat) (lb n : Nat) (l : List (Nat × Nat)) (e : Ending) (w' : World) : Prop :=
  ∃ b o', e = .returned (.int .i64 (cntP b n : Nat)) ∧ Lead l (fun _ => True) n b ∧ Step (fun k => k = lb) w o w' o'
set_option maxRecDepth 100000 in
theorem parts_w (w : World) (o : Nat → Nat) (lb la n : Nat) (vl : Value) (l : List (Nat × Nat)) (hv : VwP w o la vl l) (hne : la ≠ lb) (hn1 : 1 ≤ n) (hn : n ≤ 64) (hl : l.length ≤ 1000) (hlt : ∀ s ∈ l, s.1 < n ∧ s.2 < n) :
    Calls Try.prog 17 #[.int .i64 n, vl] w fun e w' => PwOut w o lb n l e w' := by
  have hp := parts_in w o lb la n vl l hv hne hn1 hn hl hlt
  obtain ⟨ao, cap, rfl, _, _, _⟩ := hv
  go_enter Try.func17, Try.ntmps17
  go_wp2_with fail
  refine hp.mono ?_
  rintro e w1 ⟨g, b, o1, rfl, R1, ⟨C1, C2⟩, s1⟩
  have HL : Hid (Lead l (fun _ => True) n b) := ⟨fun v hv => (C2 v hv).1, fun v hv => cj_all.1 (C2 v hv).2, fun x y hx hy j => (C1 x y hx hy).2 (cj_all.2 j)⟩
  have HS : Hid (Step (fun k => k = lb) w o w1 o1) := s1
  obtain ⟨g', cap', hv', hg, hc, hm, hlt', hcell, hfr⟩ := R1.pos (by omega)
  simp only [Value.slice.injEq, Option.some.injEq, Addr.mk.injEq, and_true, true_and] at hv'
  obtain ⟨rfl, hcc⟩ := hv'
  have HC : Hid (∀ x, x < n → w1.cell? ⟨g, x, none⟩ = some (.int .i64 (b x : Nat))) := fun x hx => (hcell x (by omega)).trans (natsF_get b hx)
  clear hp C1 C2 s1 R1 hcell hcc hfr hc hm
  go_wp2_with fail
  go_loopw [6, 7] (fun vm vi wr => ∃ k : Nat, k ≤ n ∧ vi = .int .i64 (k : Nat) ∧ vm = .int .i64 (cntP b k : Nat) ∧ wr = w1) (fun _ vi _ => n - (intOf vi).toNat)
  case atStart => exact ⟨0, by omega, by go_num, by simp [cntP, sumN], rfl⟩
  case round =>
    obtain ⟨k, hk, rfl, rfl, rfl⟩ := hrel
    have hle := cntP_le b k
    by_cases hlt2 : k < n
    · have ck := HC.out k hlt2
      have hkI : (k : Int) < (n : Int) := by omega
      by_cases hq : b k = k
      · have HN : Hid (cntP b (k + 1) = cntP b k + 1) := (show cntP b k + (if b k = k then 1 else 0) = _ from by rw [if_pos hq])
        rw [hq] at ck
        clear hq
        generalize cntP b k = m at HN hle
        go_wp2
        go_roundw
        case rel => (try ((repeat apply Exists.intro); refine ⟨?_, rfl⟩)); exact ⟨k + 1, by omega, by go_num, by rw [HN.out]; go_num, by trivial⟩
        case measure => simp [intOf]; omega
      · have HN : Hid (cntP b (k + 1) = cntP b k) := (show cntP b k + (if b k = k then 1 else 0) = _ from by rw [if_neg hq]; rfl)
        generalize b k = bk at ck hq
        have hqb : ((bk : Int) == (k : Int)) = false := by simp only [beq_eq_false_iff_ne, ne_eq]; omega
        generalize cntP b k = m at HN hle
        go_wp2
        go_roundw
        case rel => (try ((repeat apply Exists.intro); refine ⟨?_, rfl⟩)); exact ⟨k + 1, by omega, by go_num, by rw [HN.out], by trivial⟩
        case measure => simp [intOf]; omega
    · obtain rfl : k = n := by omega
      go_wp2
      go_ret
      exact ⟨b, o1, rfl, HL.out, HS.out⟩
/-- Of a list without its k-th edge. -/
theorem Lead.rest {es : List EdT} {k n : Nat} {c : Nat → Nat} (h : Lead (ends (es.take k ++ es.drop (k + 1))) (fun _ => True) n c) : Lead (ends es) (fun i => i ≠ k) n c := by
  have e : ∀ {x y}, Jn (ends (es.take k ++ es.drop (k + 1))) (fun _ => True) x y ↔ Jn (ends es) (fun i => i ≠ k) x y := fun {x y} => by rw [← cj_all, ends_rest, cj_rest]
  exact ⟨h.le, fun v hv => e.1 (h.jn v hv), fun x y hx hy j => h.eq x y hx hy (e.2 j)⟩
end Go.Proofs.Ytkhjodihlkfkdaa
