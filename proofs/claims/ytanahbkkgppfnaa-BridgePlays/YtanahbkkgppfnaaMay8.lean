/- The document's own: may an edge be? -/
import Derived.Test.YtanahbkkgppfnaaRef8M
import Derived.Test.YtanahbkkgppfnaaApp1
import Derived.Deep.LoopGhost
namespace Go.Proofs.Ytanahbkkgppfnaa
open Go.ChangeShapes Go.WideShapes Go.ChangeAt Go.RowKit
set_option linter.unusedVariables false
set_option linter.unusedSimpArgs false

def MayOut (w : World) (o : Nat → Nat) (n : Nat) (es : List EdT) (k : Nat) (e : Ending) (w' : World) : Prop := ∃ b o', e = .returned (.bool b) ∧ (b = true ↔ OkAt n es k) ∧ Step (fun _ => False) w o w' o'
set_option maxRecDepth 100000 in
set_option maxHeartbeats 8000000 in
theorem may_w (w : World) (o : Nat → Nat) (la n k : Nat) (vl : Value) (es : List EdT) (h : VwE w o la vl es) (hn : n ≤ 64) (hk : k < es.length) (hes : es.length ≤ 192) :
    Calls Try.prog 14 #[.int .i64 (n : Nat), vl, .int .i64 (k : Nat)] w fun e w' => MayOut w o n es k e w' := by
  have HV : Hid (VwE w o la vl es) := h
  obtain ⟨al, cl, rfl, hcl, hml, hpl⟩ := h
  unfold maxLen at hml
  obtain ⟨gl, off, rfl, q1, q2, q3⟩ := hpl (by omega)
  obtain ⟨x0, x1, x2, x3⟩ := q3 k hk
  have hkI : (k : Int) < (es.length : Int) := by omega
  have z00 : Blk (w.alloc (.cells #[.int .i64 0, .int .i64 0, .int .i64 0, .int .i64 0] 36)) (newLab w o 0) 0 w.heap.size (.cells #[.int .i64 0, .int .i64 0, .int .i64 0, .int .i64 0] 36 (0, 0)) := ⟨heap_alloc_new w _, newLab_new (Nat.le_refl _)⟩
  obtain ⟨a0, a1, a2, a3, af⟩ := z00.cells4
  have A0 : Blk (w.alloc (.cells #[.int .i64 es[k].id, .int .i64 es[k].u, .int .i64 es[k].v, .int .i64 es[k].wt] 36)) (newLab w o 0) 0 w.heap.size (.cells #[.int .i64 es[k].id, .int .i64 es[k].u, .int .i64 es[k].v, .int .i64 es[k].wt] 36 (0, 0)) := ⟨heap_alloc_new w _, newLab_new (Nat.le_refl _)⟩
  have s0 := newStep (fun _ => False) w o 0 (.cells #[.int .i64 es[k].id, .int .i64 es[k].u, .int .i64 es[k].v, .int .i64 es[k].wt] 36)
  have V0 : Hid (VwE (w.alloc (.cells #[.int .i64 es[k].id, .int .i64 es[k].u, .int .i64 es[k].v, .int .i64 es[k].wt] 36)) (newLab w o 0) la (.slice (some ⟨gl, off, none⟩) es.length cl) es) := HV.out.step s0 (fun h => h)
  have HK : Hid (∀ x, x = es[k] → (OkAt n es k ↔ RightE n x ∧ ∀ y, y ∈ es.take k → y.id ≠ x.id)) := fun x hx => by subst hx; exact ⟨fun h => h hk, fun h _ => h⟩
  obtain ⟨x, hx⟩ : ∃ x, x = es[k] := ⟨_, rfl⟩
  have HKX := HK.out x hx
  clear HK
  rw [← hx] at x0 x1 x2 x3 A0 s0 V0
  clear hpl q3 z00 hx HV
  go_enter Try.func14, Try.ntmps14
  go_upto_region 2 with fail
  clear a0 a1 a2 a3 af x0 x1 x2 x3 q1 q2
  obtain ⟨b0, hb0⟩ : ∃ b0, b0 = w.heap.size := ⟨_, rfl⟩
  rw [← hb0] at A0 ⊢
  generalize w.alloc (.cells #[.int .i64 x.id, .int .i64 x.u, .int .i64 x.v, .int .i64 x.wt] 36) = w5 at A0 V0 s0 ⊢
  generalize newLab w o 0 = o5 at A0 V0 s0
  clear hb0
  obtain ⟨y0, y1, y2, y3, yf⟩ := A0.cells4
  by_cases hr : RightE n x
  · obtain ⟨⟨u1, u2⟩, ⟨v1, v2⟩, huv, ⟨i1, i2⟩, ⟨w1, w2⟩⟩ := hr
    have HR : Hid (RightE n x) := ⟨⟨u1, u2⟩, ⟨v1, v2⟩, huv, ⟨i1, i2⟩, ⟨w1, w2⟩⟩
    have hne : (x.u == x.v) = false := by simp only [beq_eq_false_iff_ne, ne_eq]; exact huv
    have c1 : ¬ (x.u < 0) := by omega
    have c2 : ¬ ((n : Int) ≤ x.u) := by omega
    have c3 : ¬ (x.v < 0) := by omega
    have c4 : ¬ ((n : Int) ≤ x.v) := by omega
    have c5 : ¬ (x.id < 0) := by omega
    have c6 : ¬ (1099511627776 < x.id) := by omega
    have c7 : ¬ (x.wt < -1099511627776) := by omega
    have c8 : ¬ (1099511627776 < x.wt) := by omega
    have HA : Hid (Blk w5 o5 0 b0 (.cells #[.int .i64 x.id, .int .i64 x.u, .int .i64 x.v, .int .i64 x.wt] 36 (0, 0))) := A0
    have HS : Hid (Step (fun _ => False) w o w5 o5) := s0
    have HX : Hid (OkAt n es k ↔ RightE n x ∧ ∀ y, y ∈ es.take k → y.id ≠ x.id) := HKX
    clear A0 s0 HKX u1 u2 v1 v2 huv i1 i2 w1 w2
    go_wp2_with fail
    clear y0 y1 y2 y3 yf c1 c2 c3 c4 c5 c6 c7 c8 hne
    go_loopg [8] k (fun gh vi wr => ∃ j o', j ≤ k ∧ gh = k - j ∧ vi = .int .i64 (j : Nat) ∧ (∀ i (hi : i < es.length), i < j → es[i].id ≠ x.id) ∧ Step (fun _ => False) w5 o5 wr o')
    case atStart => exact ⟨0, o5, by omega, by omega, by go_num, fun i hi h => by omega, Step.refl _ _ _⟩
    case round =>
      obtain ⟨j, o', hj, rfl, rfl, hno, sj⟩ := hrel
      by_cases hjk : j < k
      · have hjI : (j : Int) < (k : Int) := by omega
        have hjL : (j : Int) < (es.length : Int) := by omega
        obtain ⟨ao', ca', hvv, _, _, hp⟩ := V0.out.step sj (fun h => h)
        simp only [Value.slice.injEq, true_and] at hvv
        obtain ⟨rfl, rfl⟩ := hvv
        obtain ⟨g', off', hgo, q1, q2, q3⟩ := hp (by omega)
        simp only [Option.some.injEq, Addr.mk.injEq, and_true] at hgo
        obtain ⟨rfl, rfl⟩ := hgo
        obtain ⟨x0, _, _, _⟩ := q3 j (by omega)
        obtain ⟨y0, y1, y2, y3, yf⟩ := (HA.out.step sj (fun h => h)).cells4
        by_cases heq : es[j].id = x.id
        · have hbe : (es[j].id == x.id) = true := by simp [heq]
          have HF : Hid (∀ m, MayOut w o n es k (.returned (.bool false)) (wr.drewN m)) := fun m => ⟨false, o', rfl, by
            rw [HX.out]
            constructor
            · intro h; cases h
            · intro h
              exact absurd heq (h.2 _ (List.mem_take_iff_getElem.2 ⟨j, by omega, rfl⟩)), (HS.out.trans sj).drewN m⟩
          generalize es[j].id = y at x0 hbe heq
          clear hp q3 y1 y2 y3 yf hno sj heq
          go_wp2_with fail
          go_quiet (fail)
          go_wp2
          go_ret
          exact HF.out _
        · have hbe : (es[j].id == x.id) = false := by simp only [beq_eq_false_iff_ne, ne_eq]; exact heq
          have HN : Hid (∀ i (hi : i < es.length), i < j + 1 → es[i].id ≠ x.id) := fun i hi h => by
            by_cases q : i = j
            · subst q; exact heq
            · exact hno i hi (by omega)
          have HT : Hid (∀ m, Step (fun _ => False) w5 o5 (wr.drewN m) o') := fun m => sj.drewN m
          generalize es[j].id = y at x0 hbe heq
          clear hp q3 y1 y2 y3 yf hno sj heq
          go_wp2_with fail
          go_quiet (fail)
          go_wp2
          go_roundg (k - (j + 1))
          case measure => omega
          case rel => exact ⟨j + 1, o', by omega, rfl, by go_num, HN.out, HT.out _⟩
      · obtain rfl : j = k := by omega
        have HF : Hid (MayOut w o n es j (.returned (.bool true)) wr) := ⟨true, o', rfl, by
          rw [HX.out]
          refine ⟨fun _ => ⟨HR.out, fun y hy => ?_⟩, fun _ => rfl⟩
          obtain ⟨i, hi, rfl⟩ := List.mem_take_iff_getElem.1 hy
          exact hno i (by omega) (by omega), HS.out.trans sj⟩
        clear hno sj
        go_wp2
        go_ret
        exact HF.out
  · have HF : Hid (MayOut w o n es k (.returned (.bool false)) w5) := ⟨false, o5, rfl, by rw [HKX]; exact ⟨fun h => (by cases h), fun h => absurd h.1 hr⟩, s0⟩
    have HH : Hid (¬ RightE n x) := hr
    clear A0 s0 HKX hr V0
    by_cases u1 : 0 ≤ x.u
    · have c1 : ¬ (x.u < 0) := by omega
      by_cases u2 : x.u < n
      · have c2 : ¬ ((n : Int) ≤ x.u) := by omega
        by_cases v1 : 0 ≤ x.v
        · have c3 : ¬ (x.v < 0) := by omega
          by_cases v2 : x.v < n
          · have c4 : ¬ ((n : Int) ≤ x.v) := by omega
            by_cases huv : x.u = x.v
            · have hne : (x.u == x.v) = true := by simp [huv]
              clear HH huv
              go_wp2
              go_ret
              exact HF.out
            · have hne : (x.u == x.v) = false := by simp only [beq_eq_false_iff_ne, ne_eq]; exact huv
              by_cases i1 : 0 ≤ x.id
              · have c5 : ¬ (x.id < 0) := by omega
                by_cases i2 : x.id ≤ 1099511627776
                · have c6 : ¬ (1099511627776 < x.id) := by omega
                  by_cases w1 : -1099511627776 ≤ x.wt
                  · have c7 : ¬ (x.wt < -1099511627776) := by omega
                    by_cases w2 : x.wt ≤ 1099511627776
                    · exact absurd ⟨⟨u1, u2⟩, ⟨v1, v2⟩, huv, ⟨i1, i2⟩, ⟨w1, w2⟩⟩ HH.out
                    · have c8 : 1099511627776 < x.wt := by omega
                      clear HH
                      go_wp2
                      go_ret
                      exact HF.out
                  · have c7 : x.wt < -1099511627776 := by omega
                    clear HH
                    go_wp2
                    go_ret
                    exact HF.out
                · have c6 : 1099511627776 < x.id := by omega
                  clear HH
                  go_wp2
                  go_ret
                  exact HF.out
              · have c5 : x.id < 0 := by omega
                clear HH
                go_wp2
                go_ret
                exact HF.out
          · have c4 : (n : Int) ≤ x.v := by omega
            clear HH
            go_wp2
            go_ret
            exact HF.out
        · have c3 : x.v < 0 := by omega
          clear HH
          go_wp2
          go_ret
          exact HF.out
      · have c2 : (n : Int) ≤ x.u := by omega
        clear HH
        go_wp2
        go_ret
        exact HF.out
    · have c1 : x.u < 0 := by omega
      clear HH
      go_wp2
      go_ret
      exact HF.out
end Go.Proofs.Ytanahbkkgppfnaa
