/- The library's sort of integers, at this program. -/
import Derived.Test.YtanahbkkgppfnaaBase8
import Derived.Shelf.Sort.AssemblyIn
import Derived.Sort.EveryDepth
import Derived.Sort.OwnSortedInts
import Derived.LoopN
namespace Go.Proofs.Ytanahbkkgppfnaa
open Go.ChangeShapes Go.WideShapes Go.ChangeAt Go.RowKit Go.Shelf Go.Sort
set_option linter.unusedVariables false

/-- Which of the program's numbers are the library's. -/
def renS : Ren :=
  { f := fun x => match x with
      | 189 => 21
      | 125 => 36
      | 257 => 35
      | 128 => 50
      | 129 => 51
      | 294 => 41
      | 295 => 42
      | 296 => 43
      | 297 => 44
      | 298 => 45
      | 299 => 46
      | 216 => 47
      | 300 => 48
      | 301 => 49
      | 328 => 54
      | 329 => 55
      | 330 => 56
      | 331 => 57
      | 332 => 58
      | 215 => 59
      | 343 => 60
      | n => n
    t := fun x => match x with
      | 28 => 38
      | 3 => 3
      | 46 => 72
      | 0 => 0
      | 51 => 85
      | 53 => 87
      | 4 => 4
      | 183 => 77
      | 182 => 76
      | 131 => 82
      | 5 => 5
      | 9 => 9
      | 218 => 90
      | 222 => 94
      | 228 => 96
      | 229 => 97
      | n => n
    g := fun n => n }
set_option maxRecDepth 100000 in
theorem laysS : Lays.n189 Try.prog renS := by
  constructor
  all_goals first | kernel_rfl | (intro w; kernel_rfl)

theorem insertionSort_nil (p : Option Addr) (cap : Nat) (w : World) :
    Calls Try.prog 41 #[.slice p 0 cap, .int .i64 0, .int .i64 0] w fun e w' => e = .returned (.tuple #[]) ∧ w' = w := by
  go_enter Try.func41, Try.ntmps41
  go_wp2
  refine wp_loop_rounds 1 ?_
  rw [rounds_succ]
  go_wp2
  go_end0
  exact ⟨rfl, rfl⟩
set_option maxRecDepth 100000 in
theorem pdqsort_nil (p : Option Addr) (cap : Nat) (w : World) :
    Calls Try.prog 35 #[.slice p 0 cap, .int .i64 0, .int .i64 0, .int .i64 0] w fun e w' => e = .returned (.tuple #[]) ∧ w' = w := by
  go_enter Try.func35, Try.ntmps35
  go_wp2
  refine wp_loop_rounds 1 ?_
  rw [rounds_succ]
  go_wp2_with (first | (go_at_call 41; refine (insertionSort_nil p cap _).mono ?_; rintro e w' ⟨rfl, rfl⟩))
  refine bodyPost_ret (results_none rfl _ _ _) rfl ?_
  exact ⟨rfl, rfl⟩
theorem len_zero (w : World) : Calls Try.prog 36 #[.int .u64 0] w fun e w' => e = .returned (.int .i64 0) ∧ w' = w :=
  calls_of_every_depth fun D => AnyS.bits_LenIn { laysS with } D 0 w (by omega) (by omega)
set_option maxRecDepth 100000 in
theorem sort_nil (p : Option Addr) (cap : Nat) (w : World) :
    Calls Try.prog 21 #[.slice p 0 cap] w fun e w' => e = .returned (.tuple #[]) ∧ w' = w := by
  go_enter Try.func21, Try.ntmps21
  go_wp2_with (first
    | (go_at_call 36; refine (len_zero _).mono ?_; rintro e w' ⟨rfl, rfl⟩)
    | (go_at_call 35; refine (pdqsort_nil p cap _).mono ?_; rintro e w' ⟨rfl, rfl⟩))
  go_end0
  exact ⟨rfl, rfl⟩

/-- slices.Sort of an owned slice of numbers. -/
theorem sort_in (w : World) (o : Nat → Nat) (li : Nat) (pre : List Nat) (ao : Option Addr) (cap : Nat) (r : Row w o li 3 1 (.slice ao pre.length cap) pre.length (intsL pre)) (h : pre.length ≤ 192) :
    Calls Try.prog 21 #[.slice ao pre.length cap] w fun e w' => e = .returned (.tuple #[]) ∧ ∃ o' l, Row w' o' li 3 1 (.slice ao pre.length cap) l.length (intsL l) ∧ l.Perm pre ∧ l.Pairwise (· ≤ ·) ∧ Step (fun k => k = li) w o w' o' := by
  by_cases h0 : pre.length = 0
  · have hp := List.length_eq_zero_iff.1 h0
    subst hp
    refine (sort_nil ao cap w).mono ?_
    rintro e w' ⟨rfl, rfl⟩
    exact ⟨rfl, o, [], r, List.Perm.refl _, List.Pairwise.nil, Step.refl _ _ _⟩
  · have hl := r.2
    rcases r.1.2 with ⟨e1, e2⟩ | ⟨g, cap', cur, e1, hbg, hgb, hnc, hcm, hcs, htake⟩
    · simp at e1; omega
    · rw [Value.slice.injEq] at e1
      obtain ⟨rfl, _, rfl⟩ := e1
      obtain ⟨zs, hzs⟩ : ∃ zs : List Int, zs = pre.map (fun h : Nat => (h : Int)) := ⟨_, rfl⟩
      have hzl : zs.length = pre.length := by rw [hzs]; simp
      have hzi : intsL pre = zs.map (Value.int .i64) := by rw [hzs]; simp [intsL]
      have hH : Holds (Value.int .i64) w g 0 zs.toArray := holds_of_blockI hgb (by rw [hzl, ← hzi]; simpa using htake)
      have hg : g < w.heap.size := (Array.getElem?_eq_some_iff.1 hgb).1
      have hc := calls_of_every_depth fun D => AnyS.slices_Sort_int_in laysS D g 0 cap zs w hH hg (by omega)
      rw [hzl] at hc
      refine Calls.mono hc ?_
      rintro e w' ⟨rfl, n, os, rfl⟩
      have hperm : (zs.mergeSort fun x y => decide (x ≤ y)).Perm zs := List.mergeSort_perm _ _
      have hsort : (zs.mergeSort fun x y => decide (x ≤ y)).Pairwise (fun a b => decide (a ≤ b) = true) := List.pairwise_mergeSort (fun a b c h1 h2 => by simp only [decide_eq_true_eq] at h1 h2 ⊢; omega) (fun a b => by simp only [Bool.or_eq_true, decide_eq_true_eq]; omega) zs
      generalize zs.mergeSort (fun x y => decide (x ≤ y)) = ts at hperm hsort ⊢
      have hts : ∀ a ∈ ts, 0 ≤ a := fun a ha => by
        have := hperm.mem_iff.1 ha
        rw [hzs] at this
        obtain ⟨b, _, rfl⟩ := List.mem_map.1 this
        omega
      have hmap : (ts.map Int.toNat).map (fun h : Nat => (h : Int)) = ts := by
        rw [List.map_map]
        refine (List.map_congr_left fun a ha => ?_).trans (List.map_id ts)
        have := hts a ha
        simp; omega
      have hint : intsL (ts.map Int.toNat) = ts.map (Value.int .i64) := by
        conv => rhs; rw [← hmap]
        simp [intsL]
      have hg2 := grownBy_sortedI (w := w) (g := g) (n := n) (os := os) ts.toArray
      have ho := ownsRow_sortedI (n := n) (os := os) (ss := zs) (ts := ts) hperm.length_eq (Nat.zero_le g) hgb (by omega) hcm hcs
      have hll : (ts.map Int.toNat).length = pre.length := by rw [List.length_map, hperm.length_eq, hzl]
      refine ⟨rfl, newLab w o li, ts.map Int.toNat, ?_, ?_, ?_, Step.appended hg2 rfl (fun k hk => by cases hk; exact hl g rfl)⟩
      · rw [hint, hll]
        rw [hzl] at ho
        exact ⟨ho, fun k hk => by
          simp only [Value.ownBlock, Option.some.injEq] at hk
          subst hk
          rw [newLab_old hg]; exact hl g rfl⟩
      · have := hperm.map Int.toNat
        rw [hzs, List.map_map] at this
        have e : List.map (Int.toNat ∘ fun h : Nat => (h : Int)) pre = pre := (List.map_congr_left fun a _ => by simp).trans (List.map_id pre)
        rw [e] at this
        exact this
      · rw [List.pairwise_map]
        exact hsort.imp fun {a b} q => by simp only [decide_eq_true_eq] at q; omega

end Go.Proofs.Ytanahbkkgppfnaa
