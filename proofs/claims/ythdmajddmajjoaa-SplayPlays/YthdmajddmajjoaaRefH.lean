/- The document's own forest: At, All, Flagged, Sum. -/
import Derived.Test.YthdmajddmajjoaaRefF
import Derived.Lib.Hide
import Derived.Laws.ResultCell
namespace Go.Proofs.Ythdmajddmajjoaa
open Go.ChangeShapes Go.WideShapes Go.ChangeAt Go.RowKit
set_option linter.unusedVariables false

theorem bdrw (w : World) (m : Nat) : Below w.heap.size w (w.drewN m) := ⟨rfl, rfl, rfl, Nat.le_refl _, fun _ _ => rfl⟩
theorem Step.ofBelow' {I : Nat → Prop} {w w' : World} (o : Nat → Nat) (h : Below w.heap.size w w') : Step I w o w' o := ⟨h.os, h.tape, h.output, h.size, fun _ _ => rfl, fun k hk _ => h.block k hk⟩
section
variable {w : World} {o : Nat → Nat} {R q room n M : Nat} {free : List Nat} {it : Nat → It} {S : Nat → List Nat} {pa : Nat} {vi vn vl : Value} {its : List It} {inL : List Nat} {ls : List Value} {LL : List (List Nat)}
/-- The list of a node, read. -/
theorem Rx.list (h : Rx w o R q room n M free it S pa vi vn vl its inL ls LL) {k : Nat} (hk : Live n free k) : ∃ g cap, ls.getD (inL.getD k 0) (.slice none 0 0) = .slice (some ⟨g, 0, none⟩) (S k).length cap ∧ (S k).length ≤ cap ∧ cap ≤ 9223372036854775807 ∧ ∀ j (hj : j < (S k).length), w.cell? ⟨g, j, none⟩ = some (.int .i64 ((S k)[j] : Nat)) := by
  obtain ⟨h1, h2⟩ := h.rp.own k hk
  have hr := h.rows _ h1
  rw [h2] at hr
  have hp : 0 < (S k).length := List.length_pos_of_mem (h.pl.self k hk)
  obtain ⟨g, cap, e, _, a1, a2, _, a3, _⟩ := hr.pos hp
  unfold maxLen at a2
  exact ⟨g, cap, e, a1, a2, fun j hj => by rw [a3 j (by omega), intsL_get _ j hj]⟩
theorem Rx.item (h : Rx w o R q room n M free it S pa vi vn vl its inL ls LL) {k : Nat} (hk : Live n free k) : ∃ g cap, vi = .slice (some ⟨g, 0, none⟩) (n + 1) cap ∧ n + 1 ≤ cap ∧ cap ≤ 9223372036854775807 ∧ w.cell? ⟨g, k * 3, none⟩ = some (.int .i64 (it k).v) ∧ w.cell? ⟨g, k * 3 + 1, none⟩ = some (.bool (it k).c) ∧ w.cell? ⟨g, k * 3 + 2, none⟩ = some (.int .i64 ((it k).f : Nat)) := by
  obtain ⟨g, cap, e, _, a1, a2, _, a3, _⟩ := h.ri.pos (by omega)
  have hkn : k ≤ n := hk.2.1
  have hli := h.li
  obtain ⟨p0, p1, p2⟩ := itcells_at its k (by omega)
  have he : its[k]'(by omega) = it k := by
    rw [← h.items k hk]
    simp [List.getD, List.getElem?_eq_getElem (show k < its.length by omega)]
  rw [he] at p0 p1 p2
  unfold maxLen at a2
  exact ⟨g, cap, e, a1, a2, (a3 _ (by omega)).trans p0, (a3 _ (by omega)).trans p1, (a3 _ (by omega)).trans p2⟩
theorem item_end {fn : Func} {p u : Tmp} (h : fn.results = #[.cell p 36, .tmp u]) (tmps : Array Value) (w : World) (g : Nat) (v0 v1 v2 : Value) (t : TypeId) (fr : Nat × Nat)
    (hp : tmps.getD p undef = .pointer (some ⟨g, 0, none⟩)) (hg : w.heap[g]? = some (.cells #[v0, v1, v2] t fr)) :
    (results fn tmps).run Try.prog w = .ok (.tuple #[.agg #[v0, v1, v2], tmps.getD u undef]) w := by
  rw [results_cell_tmp h, hp]
  have := run_loadVar_row (P := Try.prog) w g t 36 #[v0, v1, v2] fr _ hg Try.underlying36 rfl (by kernel_rfl)
  simp [asAddr, Result.andThen, this]
theorem hasB_nat {n : Nat} {free : List Nat} {k : Nat} (hk : Live n free k) : hasB n free (k : Int) = true := by
  obtain ⟨h1, h2, h3⟩ := hk
  obtain ⟨j, rfl⟩ : ∃ j, k = j + 1 := ⟨k - 1, by omega⟩
  have e : ((j + 1 : Nat) : Int).toNat - 1 = j := by omega
  have e1 : decide (1 ≤ ((j + 1 : Nat) : Int)) = true := decide_eq_true (by omega)
  have e2 : decide (((j + 1 : Nat) : Int) ≤ (n : Int)) = true := decide_eq_true (by omega)
  unfold hasB
  rw [e, e1, e2]
  simp [useB, h3]
theorem x_get_in (k : Nat) (h : Rx w o R q room n M free it S pa vi vn vl its inL ls LL) (hk : Live n free k) :
    Calls Try.prog 26 #[.pointer (some ⟨q, 0, none⟩), .int .i64 (k : Nat)] w fun e w' => e = .returned (.tuple #[itemV (it k), .int .i64 0]) ∧ Below w.heap.size w w' := by
  have h1 := h.step (allocStep (fun _ => False) w o (.cells #[.int .i64 0, .bool false, .int .i64 0] 36)) (fun _ _ => id)
  have c1 := x_has (k : Int) h1
  rw [hasB_nat hk] at c1
  obtain ⟨d0, d1, d2, d3, hf⟩ := h1.blk.cells4
  obtain ⟨g, cap, rfl, a1, a2, e0, e1, e2⟩ := h1.item hk
  have hkn : k ≤ n := hk.2.1
  have hkI : (k : Int) < (n : Int) + 1 := by omega
  unfold itemV
  generalize it k = x at *
  obtain ⟨xv, xc, xf⟩ := x
  simp only at e0 e1 e2 ⊢
  clear h h1
  go_enter Try.func26, Try.ntmps26
  go_wp2_with (go_at_call 48; refine c1.mono ?_; rintro e w1 ⟨rfl, rfl⟩)
  refine bodyPost_ret (item_end rfl _ _ w.heap.size _ _ _ _ _ rfl (heap_alloc_new _ _)) rfl ?_
  exact ⟨rfl, (Below.refl _ w).alloc (Nat.le_refl _) _⟩
theorem x_get_out (x : Int) (h : Rx w o R q room n M free it S pa vi vn vl its inL ls LL) (hb : hasB n free x = false) :
    Calls Try.prog 26 #[.pointer (some ⟨q, 0, none⟩), .int .i64 x] w fun e w' => e = .returned (.tuple #[itemV ⟨0, false, 0⟩, .int .i64 31]) ∧ Below w.heap.size w w' := by
  have h1 := h.step (allocStep (fun _ => False) w o (.cells #[.int .i64 0, .bool false, .int .i64 0] 36)) (fun _ _ => id)
  have c1 := x_has x h1
  rw [hb] at c1
  clear h h1
  go_enter Try.func26, Try.ntmps26
  go_wp2_with (go_at_call 48; refine c1.mono ?_; rintro e w1 ⟨rfl, rfl⟩)
  refine bodyPost_ret (item_end rfl _ _ w.heap.size _ _ _ _ _ rfl (heap_alloc_new _ _)) rfl ?_
  exact ⟨rfl, (Below.refl _ w).alloc (Nat.le_refl _) _⟩
theorem x_same_in (a b : Nat) (h : Rx w o R q room n M free it S pa vi vn vl its inL ls LL) (ha : Live n free a) (hb : Live n free b) :
    Calls Try.prog 28 #[.pointer (some ⟨q, 0, none⟩), .int .i64 (a : Nat), .int .i64 (b : Nat)] w fun e w' => e = .returned (.tuple #[.bool (decide (S a = S b)), .int .i64 0]) ∧ Below w.heap.size w w' := by
  have c1 := x_has (a : Int) h
  have c2 := x_has (b : Int) h
  rw [hasB_nat ha] at c1
  rw [hasB_nat hb] at c2
  obtain ⟨d0, d1, d2, d3, hf⟩ := h.blk.cells4
  obtain ⟨gn, cn, gl, cl, rfl, rfl, a1, a2, _, _, e1, _, _, _⟩ := h.at ha
  obtain ⟨gn', cn', _, _, eq1, _, _, _, _, _, e2, _, _, _⟩ := h.at hb
  injection eq1 with eq1 _ _
  injection eq1 with eq1
  injection eq1 with eq1 _ _
  subst eq1
  have hs := h.rp.same h.pl ha hb
  have han : a ≤ n := ha.2.1
  have hbn : b ≤ n := hb.2.1
  have haI : (a : Int) < (n : Int) + 1 := by omega
  have hbI : (b : Int) < (n : Int) + 1 := by omega
  have hdec : decide (S a = S b) = decide (inL.getD a 0 = inL.getD b 0) := by
    rw [decide_eq_decide]
    exact hs.symm
  rw [hdec]
  generalize inL.getD a 0 = ia at *
  generalize inL.getD b 0 = ib at *
  clear h hs hdec
  go_enter Try.func28, Try.ntmps28
  go_wp2_with fail
  refine c1.mono ?_
  rintro e w1 ⟨rfl, rfl⟩
  go_wp2_with fail
  refine c2.mono ?_
  rintro e w2 ⟨rfl, rfl⟩
  go_wp2
  go_quiet (fail)
  go_wp2
  go_ret2
  refine ⟨?_, bdrw _ _⟩
  have : decide (ia = ib) = ((ia : Int) == (ib : Int)) := by
    rw [Bool.eq_iff_iff]
    simp only [decide_eq_true_eq, beq_iff_eq]
    omega
  rw [this]
  rfl
theorem x_same_outA (x : Int) (y : Int) (h : Rx w o R q room n M free it S pa vi vn vl its inL ls LL) (hb : hasB n free x = false ∨ hasB n free y = false) :
    Calls Try.prog 28 #[.pointer (some ⟨q, 0, none⟩), .int .i64 x, .int .i64 y] w fun e w' => e = .returned (.tuple #[.bool false, .int .i64 31]) ∧ Below w.heap.size w w' := by
  have c1 := x_has x h
  have c2 := x_has y h
  generalize hasB n free x = bx at *
  generalize hasB n free y = by0 at *
  clear h
  go_enter Try.func28, Try.ntmps28
  go_wp2_with fail
  refine c1.mono ?_
  rintro e w1 ⟨rfl, rfl⟩
  go_wp2_with fail
  refine c2.mono ?_
  rintro e w2 ⟨rfl, rfl⟩
  rcases hb with rfl | rfl
  · go_wp2
    go_ret2
    exact ⟨rfl, Below.refl _ _⟩
  · cases bx
    all_goals
      go_wp2
      go_ret2
      exact ⟨rfl, Below.refl _ _⟩
theorem x_rank_in (k : Nat) (A B : List Nat) (h : Rx w o R q room n M free it S pa vi vn vl its inL ls LL) (hk : Live n free k) (hs : S k = A ++ k :: B) :
    Calls Try.prog 29 #[.pointer (some ⟨q, 0, none⟩), .int .i64 (k : Nat)] w fun e w' => e = .returned (.tuple #[.int .i64 (A.length : Nat), .int .i64 0]) ∧ Below w.heap.size w w' := by
  have c1 := x_has (k : Int) h
  rw [hasB_nat hk] at c1
  have c2 := x_of k h hk
  obtain ⟨g, cap, eg, a1, a2, hc⟩ := h.list hk
  rw [eg] at c2
  have hnd := h.pl.nd k hk
  have hlen := h.len hk
  rw [hs] at hnd hc a1 hlen c2
  have hA : A.length < (A ++ k :: B).length := by simp
  have hcA := hc A.length hA
  have eA : (A ++ k :: B)[A.length]'hA = k := by simp
  rw [eA] at hcA
  have hcj : Hid (∀ j, j < A.length → ∃ z : Nat, w.cell? ⟨g, j, none⟩ = some (.int .i64 (z : Nat)) ∧ z ≠ k) := fun j hj => by
    refine ⟨A[j], ?_, ?_⟩
    · rw [hc j (by simp; omega), List.getElem_append_left hj]
    · intro e
      exact (List.nodup_append.1 hnd).2.2 A[j] (List.getElem_mem hj) k (by simp) e
  clear h hc hnd hs eg eA
  generalize (A ++ k :: B).length = N at *
  generalize A.length = L at *
  go_enter Try.func29, Try.ntmps29
  go_wp2_with fail
  refine c1.mono ?_
  rintro e w1 ⟨rfl, rfl⟩
  go_wp2_with fail
  refine c2.mono ?_
  rintro e w2 ⟨rfl, m, rfl⟩
  go_wp2_with fail
  go_loopw [7] (fun v wr => ∃ j : Nat, v = .int .i64 (j : Nat) ∧ j ≤ L ∧ wr = w1.drewN m) (fun v _ => L - (intOf v).toNat)
  case atStart => exact ⟨0, by go_num, by omega, rfl⟩
  case round =>
    obtain ⟨j, rfl, hj, rfl⟩ := hrel
    have hjI : (j : Int) < (N : Int) := by omega
    by_cases hlt : j < L
    · obtain ⟨z, hz, hzk⟩ := hcj.out j hlt
      have hzI : ((z : Int) != (k : Int)) = true := by simp; omega
      go_wp2
      go_roundw
      case rel => (try ((repeat apply Exists.intro); refine ⟨?_, rfl⟩)); exact ⟨j + 1, by go_num, by omega, by trivial⟩
      case measure => simp [intOf]; omega
    · obtain rfl : j = L := by omega
      go_wp2
      go_ret2
      exact ⟨rfl, bdrw _ _⟩
theorem x_rank_out (x : Int) (h : Rx w o R q room n M free it S pa vi vn vl its inL ls LL) (hb : hasB n free x = false) :
    Calls Try.prog 29 #[.pointer (some ⟨q, 0, none⟩), .int .i64 x] w fun e w' => e = .returned (.tuple #[.int .i64 0, .int .i64 31]) ∧ Below w.heap.size w w' := by
  have c1 := x_has x h
  rw [hb] at c1
  clear h
  go_enter Try.func29, Try.ntmps29
  go_wp2_with (go_at_call 48; refine c1.mono ?_; rintro e w1 ⟨rfl, rfl⟩)
  go_ret2
  exact ⟨rfl, Below.refl _ _⟩
end
end Go.Proofs.Ythdmajddmajjoaa
namespace Go.Proofs.Ythdmajddmajjoaa
open Go.ChangeShapes Go.WideShapes Go.ChangeAt Go.RowKit
set_option linter.unusedVariables false

section
variable {w : World} {o : Nat → Nat} {R q room n M : Nat} {free : List Nat} {it : Nat → It} {S : Nat → List Nat} {pa : Nat} {vi vn vl : Value} {its : List It} {inL : List Nat} {ls : List Value} {LL : List (List Nat)}
theorem x_at_out (x y : Int) (h : Rx w o R q room n M free it S pa vi vn vl its inL ls LL) (hb : hasB n free x = false) :
    Calls Try.prog 31 #[.pointer (some ⟨q, 0, none⟩), .int .i64 x, .int .i64 y] w fun e w' => e = .returned (.tuple #[.int .i64 0, .int .i64 31]) ∧ Below w.heap.size w w' := by
  have c1 := x_has x h
  rw [hb] at c1
  clear h
  go_enter Try.func31, Try.ntmps31
  go_wp2_with (go_at_call 48; refine c1.mono ?_; rintro e w1 ⟨rfl, rfl⟩)
  go_ret2
  exact ⟨rfl, Below.refl _ _⟩
theorem x_at_bad (k : Nat) (y : Int) (h : Rx w o R q room n M free it S pa vi vn vl its inL ls LL) (hk : Live n free k) (hy : y < 0 ∨ ((S k).length : Int) ≤ y) :
    Calls Try.prog 31 #[.pointer (some ⟨q, 0, none⟩), .int .i64 (k : Nat), .int .i64 y] w fun e w' => e = .returned (.tuple #[.int .i64 0, .int .i64 34]) ∧ Below w.heap.size w w' := by
  have c1 := x_has (k : Int) h
  rw [hasB_nat hk] at c1
  have c2 := x_of k h hk
  obtain ⟨g, cap, eg, a1, a2, hc⟩ := h.list hk
  rw [eg] at c2
  clear h hc eg
  generalize (S k).length = N at *
  go_enter Try.func31, Try.ntmps31
  go_wp2_with fail
  refine c1.mono ?_
  rintro e w1 ⟨rfl, rfl⟩
  go_wp2_with fail
  refine c2.mono ?_
  rintro e w2 ⟨rfl, m, rfl⟩
  by_cases hy0 : y < 0
  · clear hy
    go_wp2
    go_ret2
    exact ⟨rfl, bdrw _ _⟩
  · have hy1 : (N : Int) ≤ y := hy.resolve_left hy0
    clear hy
    go_wp2
    go_ret2
    exact ⟨rfl, bdrw _ _⟩
theorem x_at_in (k j : Nat) (h : Rx w o R q room n M free it S pa vi vn vl its inL ls LL) (hk : Live n free k) (hj : j < (S k).length) :
    Calls Try.prog 31 #[.pointer (some ⟨q, 0, none⟩), .int .i64 (k : Nat), .int .i64 (j : Nat)] w fun e w' => e = .returned (.tuple #[.int .i64 ((S k)[j] : Nat), .int .i64 0]) ∧ Below w.heap.size w w' := by
  have c1 := x_has (k : Int) h
  rw [hasB_nat hk] at c1
  have c2 := x_of k h hk
  obtain ⟨g, cap, eg, a1, a2, hc⟩ := h.list hk
  rw [eg] at c2
  have hcj := hc j hj
  clear hc eg h
  generalize (S k)[j] = z at *
  generalize (S k).length = N at *
  have hjI : (j : Int) < (N : Int) := by omega
  have hj0 : ¬ (j : Int) < 0 := by omega
  have hj1 : ¬ (N : Int) ≤ (j : Int) := by omega
  go_enter Try.func31, Try.ntmps31
  go_wp2_with fail
  refine c1.mono ?_
  rintro e w1 ⟨rfl, rfl⟩
  go_wp2_with fail
  refine c2.mono ?_
  rintro e w2 ⟨rfl, m, rfl⟩
  go_wp2
  go_ret2
  exact ⟨rfl, bdrw _ _⟩
theorem x_all_out (x : Int) (h : Rx w o R q room n M free it S pa vi vn vl its inL ls LL) (hb : hasB n free x = false) :
    Calls Try.prog 35 #[.pointer (some ⟨q, 0, none⟩), .int .i64 x] w fun e w' => e = .returned (.tuple #[.slice none 0 0, .int .i64 31]) ∧ w' = w := by
  have c1 := x_has x h
  rw [hb] at c1
  clear h
  go_enter Try.func35, Try.ntmps35
  go_wp2_with (go_at_call 48; refine c1.mono ?_; rintro e w1 ⟨rfl, rfl⟩)
  go_ret2
  exact ⟨rfl, rfl⟩
theorem x_all_in (lb k : Nat) (h : Rx w o R q room n M free it S pa vi vn vl its inL ls LL) (hk : Live n free k) :
    Calls Try.prog 35 #[.pointer (some ⟨q, 0, none⟩), .int .i64 (k : Nat)] w fun e w' => ∃ v o', e = .returned (.tuple #[v, .int .i64 0]) ∧ Row w' o' lb 3 1 v (S k).length (intsL (S k)) ∧ Step (fun k => k = lb) w o w' o' := by
  have c1 := x_has (k : Int) h
  rw [hasB_nat hk] at c1
  have c2 := x_of k h hk
  obtain ⟨g, cap, eg, a1, a2, hc⟩ := h.list hk
  rw [eg] at c2
  have hp : 0 < (S k).length := List.length_pos_of_mem (h.pl.self k hk)
  have hl := h.len hk
  have hnews : Hid (∀ j u, (intsL (S k))[j]? = some u → w.cell? ((⟨g, 0, none⟩ : Addr).add j) = some u) := fun j u hu => by
    have hj : j < (S k).length := by
      by_cases hj : j < (S k).length
      · exact hj
      · rw [List.getElem?_eq_none (by rw [intsL_length]; omega)] at hu
        cases hu
    rw [intsL_get _ j hj] at hu
    injection hu with hu
    subst hu
    have := hc j hj
    rw [show (⟨g, 0, none⟩ : Addr).add j = ⟨g, j, none⟩ by simp only [Addr.add]; split <;> simp_all]
    exact this
  have h1c : Hid (∀ u, u ∈ intsL (S k) → u.oneCell' = true) := fun u hu => by
    simp [intsL] at hu
    obtain ⟨a, _, rfl⟩ := hu
    rfl
  have hil : (intsL (S k)).length = (S k).length * 1 := by rw [intsL_length]; omega
  obtain ⟨ii, hii, hz0, hz1, hz2⟩ := info_parts infoInt
  clear h hc eg
  generalize intsL (S k) = news at *
  generalize (S k).length = N at *
  go_enter Try.func35, Try.ntmps35
  go_wp2_with fail
  refine c1.mono ?_
  rintro e w1 ⟨rfl, rfl⟩
  go_wp2_with (first | (go_at_call 49; refine c2.mono ?_; rintro e w2 ⟨rfl, m, rfl⟩) | (at_builtin; refine wpList_append_lab rfl (.tmp 11) (.tmp 14) 60 rfl 3 ii (.int .i64 0) 1 8 Try.underlying60 hii hz0 hz1 hz2 rfl (by decide) o lb _ 0 [] rfl (Row.nil _ _ _ _ _) ⟨g, 0, none⟩ N cap news rfl hil hnews.out h1c.out hp ?c3 ?c4 ?_) | go_in)
  case c3 => unfold maxLen; omega
  case c4 => omega
  intro g5 cap5 w5 o5 R5 s5
  clear hnews h1c
  go_wp2
  go_ret2
  exact ⟨_, o5, rfl, R5, ((Step.refl _ w1 o).drewN m).trans s5⟩
end
end Go.Proofs.Ythdmajddmajjoaa
