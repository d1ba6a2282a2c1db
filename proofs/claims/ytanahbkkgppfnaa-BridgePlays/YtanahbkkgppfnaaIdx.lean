/- slices.Index and slices.Min of numbers. -/
import Derived.Test.YtanahbkkgppfnaaAdv
namespace Go.Proofs.Ytanahbkkgppfnaa
open Go.ChangeShapes Go.WideShapes Go.ChangeAt Go.RowKit
set_option linter.unusedVariables false

theorem index_w (w : World) (o : Nat → Nat) (i : Nat) (va : Value) (xs A B : List Nat) (f : Nat) (h : Vw w o i va xs) (hx : xs = A ++ f :: B) (hf : f ∉ A) (hl : xs.length ≤ 4096) :
    Calls Try.prog 52 #[va, .int .i64 (f : Nat)] w fun e w' => e = .returned (.int .i64 (A.length : Nat)) ∧ w' = w := by
  obtain ⟨ao, ca, rfl, hc, hm, hp⟩ := h
  have hlen : xs.length = A.length + B.length + 1 := by rw [hx]; simp; omega
  obtain ⟨g, off, rfl, _, _, hcell⟩ := hp (by omega)
  have hA : ∀ k (hk : k < A.length), w.cell? ⟨g, off + k, none⟩ = some (.int .i64 (A[k] : Nat)) ∧ A[k] ≠ f := fun k hk => by
    refine ⟨?_, fun q => hf (q ▸ List.getElem_mem _)⟩
    rw [hcell k (by omega)]
    congr 3
    subst hx
    rw [List.getElem_append_left hk]
  have hF : w.cell? ⟨g, off + A.length, none⟩ = some (.int .i64 (f : Nat)) := by
    rw [hcell A.length (by omega)]
    congr 3
    subst hx
    simp
  generalize xs.length = ln at hlen hc hl
  unfold maxLen at hm
  clear hp hcell hx
  go_enter Try.func52, Try.ntmps52
  go_wp2
  go_loopw [8] (fun v wr => ∃ k : Nat, k ≤ A.length ∧ v = .int .i64 (k : Nat) ∧ wr = w) (fun v _ => A.length - (intOf v).toNat)
  case atStart => exact ⟨0, by omega, by go_num, rfl⟩
  case round =>
    obtain ⟨k, hk, rfl, rfl⟩ := hrel
    by_cases hlt : k < A.length
    · obtain ⟨c1, c2⟩ := hA k hlt
      generalize A[k] = x at c1 c2
      have hne : ((f : Int) == (x : Int)) = false := by simp only [beq_eq_false_iff_ne, ne_eq]; omega
      have hkI : (k : Int) < (ln : Int) := by omega
      clear hA hF
      go_wp2
      go_roundw
      case rel => (try ((repeat apply Exists.intro); refine ⟨?_, rfl⟩)); exact ⟨k + 1, by omega, by go_num, by trivial⟩
      case measure => simp [intOf]; omega
    · obtain rfl : k = A.length := by omega
      have hkI : (A.length : Int) < (ln : Int) := by omega
      clear hA
      go_wp2
      go_ret
      exact ⟨rfl, rfl⟩

theorem min_w (w : World) (o : Nat → Nat) (i : Nat) (va : Value) (xs : List Nat) (h : Vw w o i va xs) (h0 : 0 < xs.length) (hl : xs.length ≤ 4096) :
    Calls Try.prog 53 #[va] w fun e w' => ∃ m : Nat, e = .returned (.int .i64 (m : Nat)) ∧ m ∈ xs ∧ (∀ x, x ∈ xs → m ≤ x) ∧ w' = w := by
  obtain ⟨ao, ca, rfl, hc, hm, hp⟩ := h
  obtain ⟨g, off, rfl, _, _, hcell⟩ := hp h0
  have c0 := hcell 0 h0
  simp only [Nat.add_zero] at c0
  have hgl : ¬ ((xs.length : Int) < 1) := by omega
  have H0 : Hid (xs[0] ∈ xs.take 1 ∧ ∀ x, x ∈ xs.take 1 → xs[0] ≤ x) := by
    show _ ∧ _
    cases xs with
    | nil => simp at h0
    | cons a l => simp
  unfold maxLen at hm
  clear hp
  generalize hx0 : xs[0] = x0 at c0 H0
  clear hx0
  go_enter Try.func53, Try.ntmps53
  go_wp2
  go_loopw [3, 4] (fun vm vi wr => ∃ k m : Nat, 1 ≤ k ∧ k ≤ xs.length ∧ vi = .int .i64 (k : Nat) ∧ vm = .int .i64 (m : Nat) ∧ (m ∈ xs.take k ∧ ∀ x, x ∈ xs.take k → m ≤ x) ∧ wr = w) (fun _ vi _ => xs.length - (intOf vi).toNat)
  case atStart => exact ⟨1, x0, by omega, by omega, by go_num, rfl, H0.out, rfl⟩
  case round =>
    obtain ⟨k, m, hk1, hk, rfl, rfl, hin, rfl⟩ := hrel
    by_cases hlt : k < xs.length
    · have c1 := hcell k hlt
      have et : xs.take (k + 1) = xs.take k ++ [xs[k]] := List.take_succ_eq_append_getElem hlt
      have HN : Hid (min m xs[k] ∈ xs.take (k + 1) ∧ ∀ x, x ∈ xs.take (k + 1) → min m xs[k] ≤ x) := by
        show _ ∧ _
        rw [et]
        refine ⟨?_, fun x hx => ?_⟩
        · by_cases q : m ≤ xs[k]
          · rw [Nat.min_eq_left q]; exact List.mem_append_left _ hin.1
          · rw [Nat.min_eq_right (by omega)]; exact List.mem_append_right _ (List.mem_singleton.2 rfl)
        · rcases List.mem_append.1 hx with z | z
          · have := hin.2 x z; omega
          · simp only [List.mem_singleton] at z; omega
      clear et hin
      generalize xs[k] = x at c1 HN
      have hmin : (if x < m then (x : Int) else (m : Int)) = ((min m x : Nat) : Int) := by split <;> omega
      have hkI : (k : Int) < (xs.length : Int) := by omega
      clear hcell
      go_wp2
      go_roundw
      case rel => (try ((repeat apply Exists.intro); refine ⟨?_, rfl⟩)); exact ⟨k + 1, min m x, by omega, by omega, by go_num, rfl, HN.out, by trivial⟩
      case measure => simp [intOf]; omega
    · obtain rfl : k = xs.length := by omega
      rw [List.take_length] at hin
      have HH : Hid (m ∈ xs ∧ ∀ x, x ∈ xs → m ≤ x) := hin
      clear hin hcell
      go_wp2
      go_ret
      exact ⟨m, rfl, HH.out.1, HH.out.2, rfl⟩
end Go.Proofs.Ytanahbkkgppfnaa
