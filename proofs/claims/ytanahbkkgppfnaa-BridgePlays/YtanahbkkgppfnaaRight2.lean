/- An edge that may not be; one ahead has its ID. -/
import Derived.Test.YtanahbkkgppfnaaRight
namespace Go.Proofs.Ytanahbkkgppfnaa
open Go.ChangeShapes Go.WideShapes Go.ChangeAt Go.RowKit
set_option linter.unusedVariables false

set_option maxHeartbeats 4000000 in
theorem right_false (w : World) (o : Nat → Nat) (lb n : Nat) (x : EdT) (h : ¬ RightE n x) (hn : n ≤ 64) :
    Calls Try.prog 16 #[.int .i64 (n : Nat), edv x] w fun e w' => e = .returned (.bool false) ∧ ∃ o', Step (fun _ => False) w o w' o' := by
  have s0 := newStep (fun _ => False) w o lb (.cells #[.int .i64 x.id, .int .i64 x.u, .int .i64 x.v, .int .i64 x.wt] 36)
  have B0 : Blk (w.alloc (.cells #[.int .i64 x.id, .int .i64 x.u, .int .i64 x.v, .int .i64 x.wt] 36)) (newLab w o lb) lb w.heap.size (.cells #[.int .i64 x.id, .int .i64 x.u, .int .i64 x.v, .int .i64 x.wt] 36 (0, 0)) := ⟨heap_alloc_new w _, newLab_new (Nat.le_refl _)⟩
  obtain ⟨c0, c1, c2, c3, hf⟩ := B0.cells4
  have S0 : ∃ o', Step (fun _ => False) w o (w.alloc (.cells #[.int .i64 x.id, .int .i64 x.u, .int .i64 x.v, .int .i64 x.wt] 36)) o' := ⟨_, s0⟩
  have HH : Hid (¬ RightE n x) := h
  clear B0 s0 h
  unfold edv
  by_cases u1 : 0 ≤ x.u
  · by_cases u2 : x.u < n
    · by_cases v1 : 0 ≤ x.v
      · by_cases v2 : x.v < n
        · by_cases huv : x.u = x.v
          · have hne : (x.u != x.v) = false := by simp [huv]
            clear HH huv
            go_enter Try.func16, Try.ntmps16
            go_wp2
            go_ret
            exact ⟨rfl, S0⟩
          · have hne : (x.u != x.v) = true := by simp only [bne_iff_ne, ne_eq]; exact huv
            by_cases i1 : 0 ≤ x.id
            · by_cases i2 : x.id ≤ 1099511627776
              · by_cases w1 : -1099511627776 ≤ x.wt
                · by_cases w2 : x.wt ≤ 1099511627776
                  · exact absurd ⟨⟨u1, u2⟩, ⟨v1, v2⟩, huv, ⟨i1, i2⟩, ⟨w1, w2⟩⟩ HH.out
                  · clear HH
                    go_enter Try.func16, Try.ntmps16
                    go_wp2
                    go_ret
                    exact ⟨rfl, S0⟩
                · clear HH
                  go_enter Try.func16, Try.ntmps16
                  go_wp2
                  go_ret
                  exact ⟨rfl, S0⟩
              · clear HH
                go_enter Try.func16, Try.ntmps16
                go_wp2
                go_ret
                exact ⟨rfl, S0⟩
            · clear HH
              go_enter Try.func16, Try.ntmps16
              go_wp2
              go_ret
              exact ⟨rfl, S0⟩
        · clear HH
          go_enter Try.func16, Try.ntmps16
          go_wp2
          go_ret
          exact ⟨rfl, S0⟩
      · clear HH
        go_enter Try.func16, Try.ntmps16
        go_wp2
        go_ret
        exact ⟨rfl, S0⟩
    · clear HH
      go_enter Try.func16, Try.ntmps16
      go_wp2
      go_ret
      exact ⟨rfl, S0⟩
  · clear HH
    go_enter Try.func16, Try.ntmps16
    go_wp2
    go_ret
    exact ⟨rfl, S0⟩
/-- One of the edges has the ID. -/
theorem indexFunc_some (w : World) (o : Nat → Nat) (la lb : Nat) (va : Value) (es : List EdT) (id : Int) (bx : Nat) (h : VwE w o la va es) (hb : Blk w o lb bx (.cells #[.int .i64 id] 3 (0, 0))) (hyes : ∃ x, x ∈ es ∧ x.id = id) (hl : es.length ≤ 4096) :
    Calls Try.prog 38 #[va, .func (.func 30) #[] #[.pointer (some ⟨bx, 0, none⟩)]] w fun e w' => ∃ i o', (e = .returned (.int .i64 (i : Nat)) ∧ i < es.length) ∧ Step (fun _ => False) w o w' o' := by
  have HV : Hid (VwE w o la va es) := h
  have HY : Hid (∃ x, x ∈ es ∧ x.id = id) := hyes
  obtain ⟨ao, ca, rfl, hc, hm, _⟩ := h
  unfold maxLen at hm
  clear hyes
  go_enter Try.func38, Try.ntmps38
  go_wp2
  go_loopg [8] es.length (fun gh vi wr => ∃ k o', k ≤ es.length ∧ gh = es.length - k ∧ vi = .int .i64 (k : Nat) ∧ (∀ x, x ∈ es.take k → x.id ≠ id) ∧ Step (fun _ => False) w o wr o')
  case atStart => exact ⟨0, o, by omega, by omega, by go_num, by simp, Step.refl _ _ _⟩
  case round =>
    obtain ⟨k, o', hk, rfl, rfl, hno, sk⟩ := hrel
    by_cases hkn : k < es.length
    · obtain ⟨ao', ca', hvv, _, _, hp⟩ := HV.out.step sk (fun h => h)
      simp only [Value.slice.injEq, true_and] at hvv
      obtain ⟨rfl, rfl⟩ := hvv
      obtain ⟨g, off, rfl, q1, q2, q3⟩ := hp (by omega)
      obtain ⟨x0, x1, x2, x3⟩ := q3 k hkn
      have hB := hb.step sk (fun h => h)
      have hc0 : wr.cell? ⟨bx, 0, none⟩ = some (.int .i64 id) := by simp [cell_of_row wr bx _ _ 3 (0, 0) hB.1]
      have hcl := twice_clo wr o' 0 es[k] id bx hc0 hB.lt
      unfold edv at hcl
      have hkI : (k : Int) < (es.length : Int) := by omega
      by_cases heq : es[k].id = id
      · have hbe : (es[k].id == id) = true := by simp [heq]
        rw [hbe] at hcl
        generalize es[k].id = y0 at x0 hcl
        generalize es[k].u = y1 at x1 hcl
        generalize es[k].v = y2 at x2 hcl
        generalize es[k].wt = y3 at x3 hcl
        clear q3 hp hB hb hno HY heq hbe
        go_wp2_with fail
        refine hcl.mono ?_
        rintro e w3 ⟨rfl, o3, s3⟩
        have HS : Hid (Step (fun _ => False) w o w3 o3) := sk.trans s3
        clear sk s3 hcl x0 x1 x2 x3
        go_wp2
        go_ret
        exact ⟨k, o3, ⟨rfl, hkn⟩, HS.out⟩
      · have hbe : (es[k].id == id) = false := by simp only [beq_eq_false_iff_ne, ne_eq]; exact heq
        have HN : Hid (∀ x, x ∈ es.take (k + 1) → x.id ≠ id) := fun x hx => by
          rw [List.take_succ_eq_append_getElem hkn] at hx
          rcases List.mem_append.1 hx with t | t
          · exact hno x t
          · simp only [List.mem_singleton] at t; rw [t]; exact heq
        rw [hbe] at hcl
        generalize es[k].id = y0 at x0 hcl
        generalize es[k].u = y1 at x1 hcl
        generalize es[k].v = y2 at x2 hcl
        generalize es[k].wt = y3 at x3 hcl
        clear q3 hp hB hno heq hbe
        go_wp2_with fail
        refine hcl.mono ?_
        rintro e w3 ⟨rfl, o3, s3⟩
        have HS : Hid (Step (fun _ => False) w o w3 o3) := sk.trans s3
        clear sk s3 hcl x0 x1 x2 x3
        go_wp2
        go_roundg (es.length - (k + 1))
        case measure => omega
        case rel => exact ⟨k + 1, o3, by omega, rfl, by go_num, HN.out, HS.out⟩
    · obtain rfl : k = es.length := by omega
      obtain ⟨x, hx, he⟩ := HY.out
      exact absurd he (hno x (by rw [List.take_length]; exact hx))
theorem twice_true (w : World) (o : Nat → Nat) (la lb : Nat) (va : Value) (es : List EdT) (id : Int) (h : VwE w o la va es) (hyes : ∃ x, x ∈ es ∧ x.id = id) (hl : es.length ≤ 4096) :
    Calls Try.prog 17 #[va, .int .i64 id] w fun e w' => e = .returned (.bool true) ∧ ∃ o', Step (fun _ => False) w o w' o' := by
  have s0 := newStep (fun _ => False) w o lb (.cells #[.int .i64 id] 3)
  have B0 : Blk (w.alloc (.cells #[.int .i64 id] 3)) (newLab w o lb) lb w.heap.size (.cells #[.int .i64 id] 3 (0, 0)) := ⟨heap_alloc_new w _, newLab_new (Nat.le_refl _)⟩
  have hc : Calls Try.prog 29 #[va, .func (.func 30) #[] #[.pointer (some ⟨w.heap.size, 0, none⟩)]] (w.alloc (.cells #[.int .i64 id] 3)) fun e w' => e = .returned (.bool true) ∧ ∃ o', Step (fun _ => False) (w.alloc (.cells #[.int .i64 id] 3)) (newLab w o lb) w' o' := by
    have hi := indexFunc_some _ _ la lb va es id _ (h.step s0 (fun h => h)) B0 hyes hl
    clear h B0 s0
    generalize w.alloc (.cells #[.int .i64 id] 3) = wA at hi ⊢
    generalize newLab w o lb = oA at hi ⊢
    generalize w.heap.size = bx at hi ⊢
    go_enter Try.func29, Try.ntmps29
    go_wp2_with fail
    refine hi.mono ?_
    rintro e w3 ⟨i, o3, ⟨rfl, hil⟩, s3⟩
    have HS : Hid (Step (fun _ => False) wA oA w3 o3) := s3
    have hi0 : (0 : Int) ≤ (i : Int) := by omega
    clear s3 hi
    go_wp2
    go_ret
    exact ⟨rfl, o3, HS.out⟩
  clear h B0
  go_enter Try.func17, Try.ntmps17
  go_wp2_with fail
  refine hc.mono ?_
  rintro e w3 ⟨rfl, o3, s3⟩
  have HS : Hid (Step (fun _ => False) w o w3 o3) := s0.trans s3
  clear s3 hc s0
  go_wp2
  go_ret
  exact ⟨rfl, o3, HS.out⟩
end Go.Proofs.Ytanahbkkgppfnaa
