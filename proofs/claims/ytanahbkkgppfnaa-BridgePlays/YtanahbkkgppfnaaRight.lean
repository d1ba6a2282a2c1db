/- An edge may be; none ahead has its ID. -/
import Derived.Test.YtanahbkkgppfnaaBase8
import Derived.Deep.LoopGhost
namespace Go.Proofs.Ytanahbkkgppfnaa
open Go.ChangeShapes Go.WideShapes Go.ChangeAt Go.RowKit
set_option linter.unusedVariables false

/-- An edge that may be by itself. -/
def RightE (n : Nat) (x : EdT) : Prop := (0 ≤ x.u ∧ x.u < n) ∧ (0 ≤ x.v ∧ x.v < n) ∧ x.u ≠ x.v ∧ (0 ≤ x.id ∧ x.id ≤ 1099511627776) ∧ (-1099511627776 ≤ x.wt ∧ x.wt ≤ 1099511627776)
def edv (x : EdT) : Value := .agg #[.int .i64 x.id, .int .i64 x.u, .int .i64 x.v, .int .i64 x.wt]
theorem right_true (w : World) (o : Nat → Nat) (lb n : Nat) (x : EdT) (h : RightE n x) (hn : n ≤ 64) :
    Calls Try.prog 16 #[.int .i64 (n : Nat), edv x] w fun e w' => e = .returned (.bool true) ∧ ∃ o', Step (fun _ => False) w o w' o' := by
  obtain ⟨⟨u1, u2⟩, ⟨v1, v2⟩, huv, ⟨i1, i2⟩, ⟨w1, w2⟩⟩ := h
  have s0 := newStep (fun _ => False) w o lb (.cells #[.int .i64 x.id, .int .i64 x.u, .int .i64 x.v, .int .i64 x.wt] 36)
  have B0 : Blk (w.alloc (.cells #[.int .i64 x.id, .int .i64 x.u, .int .i64 x.v, .int .i64 x.wt] 36)) (newLab w o lb) lb w.heap.size (.cells #[.int .i64 x.id, .int .i64 x.u, .int .i64 x.v, .int .i64 x.wt] 36 (0, 0)) := ⟨heap_alloc_new w _, newLab_new (Nat.le_refl _)⟩
  obtain ⟨c0, c1, c2, c3, hf⟩ := B0.cells4
  have hne : (x.u != x.v) = true := by simp only [bne_iff_ne, ne_eq]; exact huv
  have S0 : ∃ o', Step (fun _ => False) w o (w.alloc (.cells #[.int .i64 x.id, .int .i64 x.u, .int .i64 x.v, .int .i64 x.wt] 36)) o' := ⟨_, s0⟩
  clear B0 s0
  unfold edv
  go_enter Try.func16, Try.ntmps16
  go_wp2
  go_ret
  exact ⟨rfl, S0⟩

theorem twice_clo (w : World) (o : Nat → Nat) (lb : Nat) (x : EdT) (id : Int) (bx : Nat) (hb : w.cell? ⟨bx, 0, none⟩ = some (.int .i64 id)) (hlt : bx < w.heap.size) :
    Calls Try.prog 30 #[edv x, .pointer (some ⟨bx, 0, none⟩)] w fun e w' => e = .returned (.bool (x.id == id)) ∧ ∃ o', Step (fun _ => False) w o w' o' := by
  have s0 := newStep (fun _ => False) w o lb (.cells #[.int .i64 x.id, .int .i64 x.u, .int .i64 x.v, .int .i64 x.wt] 36)
  have B0 : Blk (w.alloc (.cells #[.int .i64 x.id, .int .i64 x.u, .int .i64 x.v, .int .i64 x.wt] 36)) (newLab w o lb) lb w.heap.size (.cells #[.int .i64 x.id, .int .i64 x.u, .int .i64 x.v, .int .i64 x.wt] 36 (0, 0)) := ⟨heap_alloc_new w _, newLab_new (Nat.le_refl _)⟩
  obtain ⟨c0, c1, c2, c3, hf⟩ := B0.cells4
  have S0 : ∃ o', Step (fun _ => False) w o (w.alloc (.cells #[.int .i64 x.id, .int .i64 x.u, .int .i64 x.v, .int .i64 x.wt] 36)) o' := ⟨_, s0⟩
  clear B0 s0
  unfold edv
  go_enter Try.func30, Try.ntmps30
  go_wp2
  go_ret
  exact ⟨rfl, S0⟩

/-- None of the edges has the ID. -/
theorem indexFunc_none (w : World) (o : Nat → Nat) (la lb : Nat) (va : Value) (es : List EdT) (id : Int) (bx : Nat) (h : VwE w o la va es) (hb : Blk w o lb bx (.cells #[.int .i64 id] 3 (0, 0))) (hno : ∀ x, x ∈ es → x.id ≠ id) (hl : es.length ≤ 4096) :
    Calls Try.prog 38 #[va, .func (.func 30) #[] #[.pointer (some ⟨bx, 0, none⟩)]] w fun e w' => e = .returned (.int .i64 (-1)) ∧ ∃ o', Step (fun _ => False) w o w' o' := by
  have HV : Hid (VwE w o la va es) := h
  obtain ⟨ao, ca, rfl, hc, hm, _⟩ := h
  unfold maxLen at hm
  go_enter Try.func38, Try.ntmps38
  go_wp2
  go_loopg [8] es.length (fun gh vi wr => ∃ k o', k ≤ es.length ∧ gh = es.length - k ∧ vi = .int .i64 (k : Nat) ∧ Step (fun _ => False) w o wr o')
  case atStart => exact ⟨0, o, by omega, by omega, by go_num, Step.refl _ _ _⟩
  case round =>
    obtain ⟨k, o', hk, rfl, rfl, sk⟩ := hrel
    by_cases hkn : k < es.length
    · obtain ⟨ao', ca', hvv, _, _, hp⟩ := HV.out.step sk (fun h => h)
      simp only [Value.slice.injEq, true_and] at hvv
      obtain ⟨rfl, rfl⟩ := hvv
      obtain ⟨g, off, rfl, q1, q2, q3⟩ := hp (by omega)
      obtain ⟨x0, x1, x2, x3⟩ := q3 k hkn
      have hB := hb.step sk (fun h => h)
      have hc0 : wr.cell? ⟨bx, 0, none⟩ = some (.int .i64 id) := by simp [cell_of_row wr bx _ _ 3 (0, 0) hB.1]
      have hcl := twice_clo wr o' 0 es[k] id bx hc0 hB.lt
      have hne : (es[k].id == id) = false := by simp only [beq_eq_false_iff_ne, ne_eq]; exact hno _ (List.getElem_mem hkn)
      rw [hne] at hcl
      unfold edv at hcl
      generalize es[k].id = y0 at x0 hcl
      generalize es[k].u = y1 at x1 hcl
      generalize es[k].v = y2 at x2 hcl
      generalize es[k].wt = y3 at x3 hcl
      have hkI : (k : Int) < (es.length : Int) := by omega
      clear q3 hp hne hB hb
      go_wp2_with fail
      refine hcl.mono ?_
      rintro e w3 ⟨rfl, o3, s3⟩
      have HS : Hid (Step (fun _ => False) w o w3 o3) := sk.trans s3
      clear sk s3 hcl x0 x1 x2 x3
      go_wp2
      go_roundg (es.length - (k + 1))
      case measure => omega
      case rel => exact ⟨k + 1, o3, by omega, rfl, by go_num, HS.out⟩
    · obtain rfl : k = es.length := by omega
      go_wp2
      go_ret
      exact ⟨rfl, o', sk⟩

theorem containsFunc_none (w : World) (o : Nat → Nat) (la lb : Nat) (va : Value) (es : List EdT) (id : Int) (bx : Nat) (h : VwE w o la va es) (hb : Blk w o lb bx (.cells #[.int .i64 id] 3 (0, 0))) (hno : ∀ x, x ∈ es → x.id ≠ id) (hl : es.length ≤ 4096) :
    Calls Try.prog 29 #[va, .func (.func 30) #[] #[.pointer (some ⟨bx, 0, none⟩)]] w fun e w' => e = .returned (.bool false) ∧ ∃ o', Step (fun _ => False) w o w' o' := by
  have hc := indexFunc_none w o la lb va es id bx h hb hno hl
  clear h hb
  go_enter Try.func29, Try.ntmps29
  go_wp2_with fail
  refine hc.mono ?_
  rintro e w3 ⟨rfl, o3, s3⟩
  have HS : Hid (Step (fun _ => False) w o w3 o3) := s3
  clear s3 hc
  go_wp2
  go_ret
  exact ⟨rfl, o3, HS.out⟩
theorem twice_false (w : World) (o : Nat → Nat) (la lb : Nat) (va : Value) (es : List EdT) (id : Int) (h : VwE w o la va es) (hno : ∀ x, x ∈ es → x.id ≠ id) (hl : es.length ≤ 4096) :
    Calls Try.prog 17 #[va, .int .i64 id] w fun e w' => e = .returned (.bool false) ∧ ∃ o', Step (fun _ => False) w o w' o' := by
  have s0 := newStep (fun _ => False) w o lb (.cells #[.int .i64 id] 3)
  have B0 : Blk (w.alloc (.cells #[.int .i64 id] 3)) (newLab w o lb) lb w.heap.size (.cells #[.int .i64 id] 3 (0, 0)) := ⟨heap_alloc_new w _, newLab_new (Nat.le_refl _)⟩
  have hc := containsFunc_none _ _ la lb va es id _ (h.step s0 (fun h => h)) B0 hno hl
  clear h B0
  go_enter Try.func17, Try.ntmps17
  go_wp2_with fail
  refine hc.mono ?_
  rintro e w3 ⟨rfl, o3, s3⟩
  have HS : Hid (Step (fun _ => False) w o w3 o3) := s0.trans s3
  clear s3 hc s0
  go_wp2
  go_ret
  exact ⟨rfl, o3, HS.out⟩
end Go.Proofs.Ytanahbkkgppfnaa
