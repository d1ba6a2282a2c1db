/- The document's own forest: Add, Sum, Flagged. -/
import Derived.Test.YthdmajddmajjoaaRefH
import Derived.Test.YthdmajddmajjoaaHang
import Derived.Deep.RegionHeld
namespace Go.Proofs.Ythdmajddmajjoaa
open Go.ChangeShapes Go.WideShapes Go.ChangeAt Go.RowKit
set_option linter.unusedVariables false
set_option linter.unusedSimpArgs false

theorem three_below (w : World) (a b c : Obj) : Below w.heap.size w (((w.alloc a).alloc b).alloc c) := by
  have h := ((newB w (fun _ => 0) a).trans (newB _ _ b)).trans (newB _ _ c)
  exact h.below (fun _ _ => id)
theorem below_drawn {w w' : World} (h : Below w.drew.heap.size w.drew w') : Below w.heap.size w w' := ⟨h.os, h.tape, h.output, h.size, h.block⟩
theorem one_below (w : World) (a : Obj) : Below w.heap.size w (w.alloc a) := (newB w (fun _ => 0) a).below (fun _ _ => id)
set_option maxRecDepth 100000 in
set_option maxHeartbeats 4000000 in
theorem add_any (w : World) (a : Ag) (x : It) (n : Nat) (hn : n ≤ 4096) (ha : a.bd n) (h0 : a.count = 0 → a.sum = 0 ∧ a.least = 0 ∧ a.most = 0) (hx : x.may) :
    Calls Try.prog 51 #[aggV a, itemV x] w fun e w' => e = .returned (aggV (a.both x.one)) ∧ Below w.heap.size w w' := by
  obtain ⟨a1, a2, a3, a4, a5, a6, a7, a8⟩ := ha
  obtain ⟨b1, b2, b3⟩ := hx
  obtain ⟨xv, xc, xf⟩ := x
  simp only at b1 b2 b3
  have w2 : IntKind.i64.wrap ((a.count : Int) + 1) = a.count + 1 := by rw [IntKind.wrap_i64]; omega
  have w3 : IntKind.i64.wrap (a.sum + xv) = a.sum + xv := by rw [IntKind.wrap_i64]; omega
  have w4 := or_nat a.flags xf a8 b3
  obtain ⟨sf, hsf⟩ : ∃ sf, sf = a.both (It.one ⟨xv, xc, xf⟩) := ⟨_, rfl⟩
  rw [← hsf]
  have HS : Hid (sf = a.both (It.one ⟨xv, xc, xf⟩)) := hsf
  clear hsf
  unfold aggV itemV
  simp only
  cases xc with
  | false =>
    have H0 : Hid (a.count = 0 → a.sum = 0 ∧ a.least = 0 ∧ a.most = 0) := h0
    clear h0
    go_enter Try.func51, Try.ntmps51
    go_wp2
    refine bodyPost_ret (v := aggV sf) ?_ rfl ⟨rfl, three_below _ _ _ _⟩
    rw [HS.out]
    by_cases hc : a.count = 0
    · obtain ⟨z1, z2, z3⟩ := H0.out hc
      simp [results, Try.results51, go_sem, aggV, Ag.both, It.one, hc, z1, z2, z3]
    · simp [results, Try.results51, go_sem, aggV, Ag.both, It.one, hc]
  | true =>
    by_cases hc : a.count = 0
    · obtain ⟨z1, z2, z3⟩ := h0 hc
      have e1 : ((a.count : Int) == 0) = true := by simp [hc]
      go_enter Try.func51, Try.ntmps51
      go_wp2
      all_goals
        refine bodyPost_ret (v := aggV sf) ?_ rfl ⟨rfl, three_below _ _ _ _⟩
        rw [HS.out]
        simp [results, Try.results51, go_sem, aggV, Ag.both, It.one, hc]
        try omega
    · have e1 : ((a.count : Int) == 0) = false := by simp only [beq_eq_false_iff_ne, ne_eq]; omega
      clear h0
      go_enter Try.func51, Try.ntmps51
      go_wp2
      all_goals
        refine bodyPost_ret (v := aggV sf) ?_ rfl ⟨rfl, three_below _ _ _ _⟩
        rw [HS.out]
        simp [results, Try.results51, go_sem, aggV, Ag.both, It.one, hc]
        try omega
def aggC (a : Ag) : Array Value := #[.int .i64 (a.count : Nat), .int .i64 a.sum, .int .i64 a.least, .int .i64 a.most, .int .i64 (a.flags : Nat)]
section
variable {w : World} {o : Nat → Nat} {R q room n M : Nat} {free : List Nat} {it : Nat → It} {S : Nat → List Nat} {pa : Nat} {vi vn vl : Value} {its : List It} {inL : List Nat} {ls : List Value} {LL : List (List Nat)}
/-- Labels that the forest leaves free. -/
def XS (R : Nat) : Nat → Prop := fun k => k = R + 7 ∨ k = R + 8
theorem Rx.scratch {w' : World} {o' : Nat → Nat} (h : Rx w o R q room n M free it S pa vi vn vl its inL ls LL) (s : Step (XS R) w o w' o') : Rx w' o' R q room n M free it S pa vi vn vl its inL ls LL := by
  exact ⟨h.blk.step s (by unfold XS; omega), h.ar.step s (fun k hk => by have := hk.1; have := hk.2; unfold XS; omega), h.ri.step s (by unfold XS; omega), h.li, h.rn.step s (by unfold XS; omega), h.ln, h.rl.step s (by unfold XS; omega), h.ll, fun i hl => (h.rows i hl).step s (by unfold XS; omega), h.items, h.rp, h.pl, h.small, h.many, h.mny⟩
theorem Step.xs {w w' : World} {o o' : Nat → Nat} {R : Nat} (s : Step (XS R) w o w' o') : Step (XL R) w o w' o' := s.mono fun k h => by unfold XS at h; unfold XL; omega
structure SumI (w : World) (o : Nat → Nat) (R q room n M : Nat) (free : List Nat) (it : Nat → It) (S : Nat → List Nat) (pa : Nat) (vi vn vl : Value) (its : List It) (inL : List Nat) (ls : List Value) (LL : List (List Nat)) (g1 g2 : Nat) (a : Ag) (wr : World) (o' : Nat → Nat) : Prop where
  rx : Rx wr o' R q room n M free it S pa vi vn vl its inL ls LL
  b1 : Blk wr o' (R + 8) g1 (.cells (aggC Ag.zero) 45 (0, 0))
  b2 : Blk wr o' (R + 7) g2 (.cells (aggC a) 45 (0, 0))
  st : Step (XS R) w o wr o'
theorem SumI.read {g1 g2 g gi ci cap k : Nat} {a : Ag} {wr wx : World} {o' : Nat → Nat} (T : SumI w o R q room n M free it S pa vi vn vl its inL ls LL g1 g2 a wr o') (hk : Live n free k) (eg : ls.getD (inL.getD k 0) (.slice none 0 0) = .slice (some ⟨g, 0, none⟩) (S k).length cap) (ei : vi = .slice (some ⟨gi, 0, none⟩) (n + 1) ci) (j : Nat) (hj : j < (S k).length) (hx : Below wr.heap.size wr wx) :
    wx.cell? ⟨q, 1, none⟩ = some vi ∧ wx.cell? ⟨g, j, none⟩ = some (.int .i64 ((S k)[j] : Nat)) ∧ wx.cell? ⟨gi, (S k)[j] * 3, none⟩ = some (.int .i64 (it (S k)[j]).v) ∧ wx.cell? ⟨gi, (S k)[j] * 3 + 1, none⟩ = some (.bool (it (S k)[j]).c) ∧ wx.cell? ⟨gi, (S k)[j] * 3 + 2, none⟩ = some (.int .i64 ((it (S k)[j]).f : Nat)) ∧
    wx.cell? ⟨g2, 0, none⟩ = some (.int .i64 (a.count : Nat)) ∧ wx.cell? ⟨g2, 1, none⟩ = some (.int .i64 a.sum) ∧ wx.cell? ⟨g2, 2, none⟩ = some (.int .i64 a.least) ∧ wx.cell? ⟨g2, 3, none⟩ = some (.int .i64 a.most) ∧ wx.cell? ⟨g2, 4, none⟩ = some (.int .i64 (a.flags : Nat)) := by
  have s : Step (fun _ => False) wr o' wx o' := Step.ofBelow' o' hx
  have hR := T.rx.step s (fun _ _ => id)
  have hB := T.b2.step s id
  obtain ⟨_, d1, _, _, _⟩ := hR.blk.cells4
  obtain ⟨g', cap', eg', _, _, hc⟩ := hR.list hk
  rw [eg] at eg'
  injection eg' with e1 _ _
  injection e1 with e1
  injection e1 with e1 _ _
  subst e1
  obtain ⟨gi', ci', ei', _, _, i0, i1, i2⟩ := hR.item (T.rx.pl.mem k hk _ (List.getElem_mem hj) |>.1)
  rw [ei] at ei'
  injection ei' with e1 _ _
  injection e1 with e1
  injection e1 with e1 _ _
  subst e1
  obtain ⟨b0, b1, b2, b3, b4, _⟩ := hB.cells5
  exact ⟨d1, hc j hj, i0, i1, i2, b0, b1, b2, b3, b4⟩
theorem SumI.next {g1 g2 : Nat} {a a' : Ag} {wr wx : World} {o' : Nat → Nat} (T : SumI w o R q room n M free it S pa vi vn vl its inL ls LL g1 g2 a wr o') (hx : Below wr.heap.size wr wx) :
    SumI w o R q room n M free it S pa vi vn vl its inL ls LL g1 g2 a' (((((wx.setCell ⟨g2, 0, none⟩ (.int .i64 (a'.count : Nat))).setCell ⟨g2, 1, none⟩ (.int .i64 a'.sum)).setCell ⟨g2, 2, none⟩ (.int .i64 a'.least)).setCell ⟨g2, 3, none⟩ (.int .i64 a'.most)).setCell ⟨g2, 4, none⟩ (.int .i64 (a'.flags : Nat))) o' := by
  have s : Step (fun _ => False) wr o' wx o' := Step.ofBelow' o' hx
  have hB := T.b2.step s id
  have s2 := five_set (R + 7) wx o' g2 (.int .i64 (a'.count : Nat)) (.int .i64 a'.sum) (.int .i64 a'.least) (.int .i64 a'.most) (.int .i64 (a'.flags : Nat)) hB.2
  have s3 := (s.mono (J := fun k => k = R + 7) fun _ h => h.elim).trans s2
  have s4 := s3.mono (J := XS R) fun _ h => .inl h
  exact ⟨T.rx.scratch s4, T.b1.step s3 (by omega), ((((hB.set 0 _).set 1 _).set 2 _).set 3 _).set 4 _, T.st.trans s4⟩
theorem x_sum_in (k : Nat) (h : Rx w o R q room n M free it S pa vi vn vl its inL ls LL) (hk : Live n free k) (hmay : ∀ j, Live n free j → (it j).may) :
    Calls Try.prog 32 #[.pointer (some ⟨q, 0, none⟩), .int .i64 (k : Nat)] w fun e w' => e = .returned (.tuple #[aggV (agg ((S k).map it)), .int .i64 0]) ∧ ∃ o', Rx w' o' R q room n M free it S pa vi vn vl its inL ls LL ∧ Step (XL R) w o w' o' := by
  obtain ⟨ga, hga⟩ : ∃ ga, ga = agg ((S k).map it) := ⟨_, rfl⟩
  rw [← hga]
  have HGA : Hid (ga = agg ((S k).map it)) := hga
  clear hga
  have s1 := newStep (XS R) w o (R + 8) (.cells (aggC Ag.zero) 45)
  have h1 := h.scratch s1
  have B1 : Blk (w.alloc (.cells (aggC Ag.zero) 45)) (newLab w o (R + 8)) (R + 8) w.heap.size (.cells (aggC Ag.zero) 45 (0, 0)) := ⟨heap_alloc_new w _, newLab_new (Nat.le_refl _)⟩
  have c1 := x_has (k : Int) h1
  rw [hasB_nat hk] at c1
  have c2 := x_of k h1 hk
  obtain ⟨g, cap, eg, a1, a2, hc⟩ := h.list hk
  rw [eg] at c2
  have hl := h.len hk
  obtain ⟨gi, ci, ei, i1, i2, -, -, -⟩ := h.item hk
  have hmem := h.pl.mem k hk
  have hN : ∀ j (hj : j < (S k).length), Live n free (S k)[j] := fun j hj => (hmem _ (List.getElem_mem hj)).1
  generalize hl2 : S k = l at *
  go_enter Try.func32, Try.ntmps32
  go_wp2_with fail
  refine c1.mono ?_
  rintro e w1 ⟨rfl, rfl⟩
  go_wp2_with fail
  refine c2.mono ?_
  rintro e w2 ⟨rfl, m, e2⟩
  have T2 : SumI w o R q room n M free it S pa vi vn vl its inL ls LL w.heap.size w2.heap.size (agg []) (w2.alloc (.cells (aggC Ag.zero) 45)) (newLab w2 (newLab w o (R + 8)) (R + 7)) := by
    have s2 : Step (XS R) _ _ w2 _ := e2 ▸ (Step.refl (XS R) (w.alloc (.cells (aggC Ag.zero) 45)) (newLab w o (R + 8))).drewN m
    have s3 := s2.trans (newStep (XS R) w2 (newLab w o (R + 8)) (R + 7) (.cells (aggC Ag.zero) 45))
    have s3' := ((e2 ▸ (Step.refl (fun _ => False) (w.alloc (.cells (aggC Ag.zero) 45)) (newLab w o (R + 8))).drewN m) : Step (fun _ => False) _ _ w2 _).trans (newStep (fun _ => False) w2 (newLab w o (R + 8)) (R + 7) (.cells (aggC Ag.zero) 45))
    exact ⟨h1.scratch s3, B1.step s3' id, ⟨heap_alloc_new w2 _, newLab_new (Nat.le_refl _)⟩, s1.trans s3⟩
  have hz : w.heap.size < w2.heap.size := by rw [e2]; simp
  have hne : Hid (w.heap.size ≠ w2.heap.size) := by unfold Hid; omega
  have HN : Hid (∀ j (hj : j < l.length), Live n free l[j]) := hN
  have HM : Hid (∀ j, Live n free j → (it j).may) := hmay
  have HR : Hid (∀ a wr o' j (hj : j < l.length), SumI w o R q room n M free it S pa vi vn vl its inL ls LL w.heap.size w2.heap.size a wr o' → ∀ wx, Below wr.heap.size wr wx → wx.cell? ⟨q, 1, none⟩ = some vi ∧ wx.cell? ⟨g, j, none⟩ = some (.int .i64 (l[j] : Nat)) ∧ wx.cell? ⟨gi, l[j] * 3, none⟩ = some (.int .i64 (it l[j]).v) ∧ wx.cell? ⟨gi, l[j] * 3 + 1, none⟩ = some (.bool (it l[j]).c) ∧ wx.cell? ⟨gi, l[j] * 3 + 2, none⟩ = some (.int .i64 ((it l[j]).f : Nat)) ∧
    wx.cell? ⟨w2.heap.size, 0, none⟩ = some (.int .i64 (a.count : Nat)) ∧ wx.cell? ⟨w2.heap.size, 1, none⟩ = some (.int .i64 a.sum) ∧ wx.cell? ⟨w2.heap.size, 2, none⟩ = some (.int .i64 a.least) ∧ wx.cell? ⟨w2.heap.size, 3, none⟩ = some (.int .i64 a.most) ∧ wx.cell? ⟨w2.heap.size, 4, none⟩ = some (.int .i64 (a.flags : Nat))) := fun a wr o' j hj T wx hx => by
    subst hl2
    exact T.read hk eg ei j hj hx
  clear h h1 B1 c1 c2 s1 e2 hz hmem hN hmay hc hl2 eg hk
  go_wp2
  have T2' : Hid (∃ o', SumI w o R q room n M free it S pa vi vn vl its inL ls LL w.heap.size w2.heap.size (agg []) (w2.alloc (.cells (aggC Ag.zero) 45)) o') := ⟨_, T2⟩
  clear T2
  generalize w2.heap.size = g2 at *
  go_loopw [8] (fun v wr => ∃ j : Nat, v = .int .i64 (j : Nat) ∧ j ≤ l.length ∧ ∃ o', SumI w o R q room n M free it S pa vi vn vl its inL ls LL w.heap.size g2 (agg ((l.take j).map it)) wr o') (fun v _ => l.length - (intOf v).toNat)
  case atStart => exact ⟨0, by go_num, by omega, T2'.out⟩
  case round =>
    obtain ⟨j, rfl, hj, o3, T⟩ := hrel
    by_cases hlt : j < l.length
    · have hjI : (j : Int) < (l.length : Int) := by omega
      have HD := HR.out _ _ _ j hlt T
      have hx := HN.out j hlt
      have hm := HM.out _ hx
      have hxn : l[j] ≤ n := hx.2.1
      have HF : Hid (∀ wx, Below wr.heap.size wr wx → ∀ i, wx.frozen? ⟨g2, i, none⟩ = false) := fun wx hw => by
        obtain ⟨_, _, _, _, _, hf⟩ := (T.b2.step (Step.ofBelow' (I := fun _ => False) o3 hw) id).cells5
        exact hf
      have HE : Hid (∀ wx, Below wr.heap.size wr wx → (((((wx.setCell ⟨g2, 0, none⟩ (.int .i64 (((agg ((l.take j).map it)).both (it l[j]).one).count : Nat))).setCell ⟨g2, 1, none⟩ (.int .i64 ((agg ((l.take j).map it)).both (it l[j]).one).sum)).setCell ⟨g2, 2, none⟩ (.int .i64 ((agg ((l.take j).map it)).both (it l[j]).one).least)).setCell ⟨g2, 3, none⟩ (.int .i64 ((agg ((l.take j).map it)).both (it l[j]).one).most)).setCell ⟨g2, 4, none⟩ (.int .i64 (((agg ((l.take j).map it)).both (it l[j]).one).flags : Nat))).cell? ⟨q, 1, none⟩ = some vi ∧ (((((wx.setCell ⟨g2, 0, none⟩ (.int .i64 (((agg ((l.take j).map it)).both (it l[j]).one).count : Nat))).setCell ⟨g2, 1, none⟩ (.int .i64 ((agg ((l.take j).map it)).both (it l[j]).one).sum)).setCell ⟨g2, 2, none⟩ (.int .i64 ((agg ((l.take j).map it)).both (it l[j]).one).least)).setCell ⟨g2, 3, none⟩ (.int .i64 ((agg ((l.take j).map it)).both (it l[j]).one).most)).setCell ⟨g2, 4, none⟩ (.int .i64 (((agg ((l.take j).map it)).both (it l[j]).one).flags : Nat))).cell? ⟨g, j, none⟩ = some (.int .i64 (l[j] : Nat)) ∧ (((((wx.setCell ⟨g2, 0, none⟩ (.int .i64 (((agg ((l.take j).map it)).both (it l[j]).one).count : Nat))).setCell ⟨g2, 1, none⟩ (.int .i64 ((agg ((l.take j).map it)).both (it l[j]).one).sum)).setCell ⟨g2, 2, none⟩ (.int .i64 ((agg ((l.take j).map it)).both (it l[j]).one).least)).setCell ⟨g2, 3, none⟩ (.int .i64 ((agg ((l.take j).map it)).both (it l[j]).one).most)).setCell ⟨g2, 4, none⟩ (.int .i64 (((agg ((l.take j).map it)).both (it l[j]).one).flags : Nat))).cell? ⟨gi, l[j] * 3, none⟩ = some (.int .i64 (it l[j]).v) ∧ (((((wx.setCell ⟨g2, 0, none⟩ (.int .i64 (((agg ((l.take j).map it)).both (it l[j]).one).count : Nat))).setCell ⟨g2, 1, none⟩ (.int .i64 ((agg ((l.take j).map it)).both (it l[j]).one).sum)).setCell ⟨g2, 2, none⟩ (.int .i64 ((agg ((l.take j).map it)).both (it l[j]).one).least)).setCell ⟨g2, 3, none⟩ (.int .i64 ((agg ((l.take j).map it)).both (it l[j]).one).most)).setCell ⟨g2, 4, none⟩ (.int .i64 (((agg ((l.take j).map it)).both (it l[j]).one).flags : Nat))).cell? ⟨gi, l[j] * 3 + 1, none⟩ = some (.bool (it l[j]).c) ∧ (((((wx.setCell ⟨g2, 0, none⟩ (.int .i64 (((agg ((l.take j).map it)).both (it l[j]).one).count : Nat))).setCell ⟨g2, 1, none⟩ (.int .i64 ((agg ((l.take j).map it)).both (it l[j]).one).sum)).setCell ⟨g2, 2, none⟩ (.int .i64 ((agg ((l.take j).map it)).both (it l[j]).one).least)).setCell ⟨g2, 3, none⟩ (.int .i64 ((agg ((l.take j).map it)).both (it l[j]).one).most)).setCell ⟨g2, 4, none⟩ (.int .i64 (((agg ((l.take j).map it)).both (it l[j]).one).flags : Nat))).cell? ⟨gi, l[j] * 3 + 2, none⟩ = some (.int .i64 ((it l[j]).f : Nat))) := fun wx hw => by
        obtain ⟨f0, f1, f2, f3, f4, -⟩ := HR.out _ _ _ j hlt (T.next (a' := (agg ((l.take j).map it)).both (it l[j]).one) hw) _ (Below.refl _ _)
        exact ⟨f0, f1, f2, f3, f4⟩
      have HD5 : Hid (∀ wx, Below wr.heap.size wr wx → wx.cell? ⟨q, 1, none⟩ = some vi ∧ wx.cell? ⟨g, j, none⟩ = some (.int .i64 (l[j] : Nat)) ∧ wx.cell? ⟨gi, l[j] * 3, none⟩ = some (.int .i64 (it l[j]).v) ∧ wx.cell? ⟨gi, l[j] * 3 + 1, none⟩ = some (.bool (it l[j]).c) ∧ wx.cell? ⟨gi, l[j] * 3 + 2, none⟩ = some (.int .i64 ((it l[j]).f : Nat))) := fun wx hw => by
        obtain ⟨f0, f1, f2, f3, f4, -⟩ := HD wx hw
        exact ⟨f0, f1, f2, f3, f4⟩
      have HG : Hid (∀ wx, Below wr.heap.size wr wx → ∃ o', SumI w o R q room n M free it S pa vi vn vl its inL ls LL w.heap.size g2 (agg ((l.take (j + 1)).map it)) (((((wx.setCell ⟨g2, 0, none⟩ (.int .i64 (((agg ((l.take j).map it)).both (it l[j]).one).count : Nat))).setCell ⟨g2, 1, none⟩ (.int .i64 ((agg ((l.take j).map it)).both (it l[j]).one).sum)).setCell ⟨g2, 2, none⟩ (.int .i64 ((agg ((l.take j).map it)).both (it l[j]).one).least)).setCell ⟨g2, 3, none⟩ (.int .i64 ((agg ((l.take j).map it)).both (it l[j]).one).most)).setCell ⟨g2, 4, none⟩ (.int .i64 (((agg ((l.take j).map it)).both (it l[j]).one).flags : Nat))) o') := fun wx hw => by
        have e : agg ((l.take (j + 1)).map it) = (agg ((l.take j).map it)).both (it l[j]).one := by
          rw [← agg_snoc, List.take_succ_eq_append_getElem hlt, List.map_append]
          rfl
        rw [e]
        exact ⟨o3, T.next hw⟩
      have hbd : (agg ((l.take j).map it)).bd j := by
        have := agg_bd ((l.take j).map it) (fun x hx => by
          obtain ⟨y, hy, rfl⟩ := List.mem_map.1 hx
          obtain ⟨i, hi, rfl⟩ := List.getElem_of_mem (List.mem_of_mem_take hy)
          exact HM.out _ (HN.out i hi))
        simpa [Nat.min_eq_left hj] using this
      have hno := agg_none ((l.take j).map it)
      have HA := fun wx => add_any wx (agg ((l.take j).map it)) (it l[j]) j (by omega) hbd hno hm
      generalize agg ((l.take j).map it) = a at *
      generalize it l[j] = x at *
      generalize l[j] = z at *
      generalize a.both x.one = a' at *
      obtain ⟨xv, xc, xf⟩ := x
      obtain ⟨y0, y1, y2, y3, y4⟩ := a
      obtain ⟨z0, z1, z2, z3, z4⟩ := a'
      simp only [aggV, itemV] at HD HG HA HE HD5
      have HD' : Hid _ := HD
      obtain ⟨q0, q1, q2, q3, q4, q5, q6, q7, q8, q9⟩ := HD wr (Below.refl _ _)
      have hzI : (z : Int) < (n : Int) + 1 := by omega
      have bd0 : Below wr.heap.size wr wr.drew := ⟨rfl, rfl, rfl, Nat.le_refl _, fun _ _ => rfl⟩
      subst ei
      clear HD hm hx hbd hno T HR HN HM
      go_wp2_with fail
      refine wp_region_held_drew (S := fun wx => wx.cell? ⟨q, 1, none⟩ = some (.slice (some ⟨gi, 0, none⟩) (n + 1) ci) ∧ wx.cell? ⟨g, j, none⟩ = some (.int .i64 (z : Nat)) ∧ wx.cell? ⟨gi, z * 3, none⟩ = some (.int .i64 xv) ∧ wx.cell? ⟨gi, z * 3 + 1, none⟩ = some (.bool xc) ∧ wx.cell? ⟨gi, z * 3 + 2, none⟩ = some (.int .i64 (xf : Nat))) (by kernel_rfl) (HD5.out _ bd0) (fun hHeld => ?_)
      refine wpAnyH_take (i := 1) (v := ?v0) rfl (by kernel_rfl) (by kernel_rfl) (by kernel_rfl) (fun _ _ _ h => h) (Or.inl ⟨by rfl, ?hy0⟩) (by assumption) ?rest0
      case hy0 => (intro w hSw; (try dsimp only at hSw); go_simp; all_goals (with_reducible rfl))
      try simp only [Act.put, List.setIfInBounds_toArray, List.set_cons_zero, List.set_cons_succ]
      refine wpAnyH_take (i := 2) (v := ?v1) rfl (by kernel_rfl) (by kernel_rfl) (by kernel_rfl) (fun _ _ _ h => h) (Or.inl ⟨by rfl, ?hy1⟩) (by assumption) ?rest1
      case hy1 => (intro w hSw; (try dsimp only at hSw); go_simp; all_goals (with_reducible rfl))
      try simp only [Act.put, List.setIfInBounds_toArray, List.set_cons_zero, List.set_cons_succ]
      refine wpAnyH_take (i := 3) (v := ?v2) rfl (by kernel_rfl) (by kernel_rfl) (by kernel_rfl) (fun _ _ _ h => h) (Or.inl ⟨by rfl, ?hy2⟩) (by assumption) ?rest2
      case hy2 => (intro w hSw; (try dsimp only at hSw); go_simp; all_goals (with_reducible rfl))
      try simp only [Act.put, List.setIfInBounds_toArray, List.set_cons_zero, List.set_cons_succ]
      refine wpAnyH_take (i := 4) (v := ?v3) rfl (by kernel_rfl) (by kernel_rfl) (by kernel_rfl) (fun _ _ _ h => h) (Or.inl ⟨by rfl, ?hy3⟩) (by assumption) ?rest3
      case hy3 => (intro w hSw; (try dsimp only at hSw); go_simp; all_goals (with_reducible rfl))
      try simp only [Act.put, List.setIfInBounds_toArray, List.set_cons_zero, List.set_cons_succ]
      refine wpAnyH_take (i := 5) (v := ?v4) rfl (by kernel_rfl) (by kernel_rfl) (by kernel_rfl) (fun _ _ _ h => h) (Or.inl ⟨by rfl, ?hy4⟩) (by assumption) ?rest4
      case hy4 => (intro w hSw; (try dsimp only at hSw); go_simp; all_goals (with_reducible rfl))
      try simp only [Act.put, List.setIfInBounds_toArray, List.set_cons_zero, List.set_cons_succ]
      refine wpAnyH_take (i := 6) (v := ?v5) rfl (by kernel_rfl) (by kernel_rfl) (by kernel_rfl) (fun _ _ _ h => h) (Or.inl ⟨by rfl, ?hy5⟩) (by assumption) ?rest5
      case hy5 => (intro w hSw; (try dsimp only at hSw); go_simp; all_goals (with_reducible rfl))
      try simp only [Act.put, List.setIfInBounds_toArray, List.set_cons_zero, List.set_cons_succ]
      refine wpAnyH_take (i := 7) (v := ?v6) rfl (by kernel_rfl) (by kernel_rfl) (by kernel_rfl) (fun _ _ _ h => h) (Or.inl ⟨by rfl, ?hy6⟩) (by assumption) ?rest6
      case hy6 => (intro w hSw; (try dsimp only at hSw); go_simp; all_goals (with_reducible rfl))
      try simp only [Act.put, List.setIfInBounds_toArray, List.set_cons_zero, List.set_cons_succ]
      refine wpAnyH_take (i := 8) (v := ?v7) rfl (by kernel_rfl) (by kernel_rfl) (by kernel_rfl) (fun _ _ _ h => h) (Or.inl ⟨by rfl, ?hy7⟩) (by assumption) ?rest7
      case hy7 => (intro w hSw; (try dsimp only at hSw); go_simp; all_goals (with_reducible rfl))
      try simp only [Act.put, List.setIfInBounds_toArray, List.set_cons_zero, List.set_cons_succ]
      refine wpAnyH_take (i := 9) (v := ?v8) rfl (by kernel_rfl) (by kernel_rfl) (by kernel_rfl) (fun _ _ _ h => h) (Or.inl ⟨by rfl, ?hy8⟩) (by assumption) ?rest8
      case hy8 => (intro w hSw; (try dsimp only at hSw); go_simp; all_goals (with_reducible rfl))
      try simp only [Act.put, List.setIfInBounds_toArray, List.set_cons_zero, List.set_cons_succ]
      refine wpAnyH_take (i := 10) (v := ?v9) rfl (by kernel_rfl) (by kernel_rfl) (by kernel_rfl) (fun _ _ _ h => h) (Or.inl ⟨by rfl, ?hy9⟩) (by assumption) ?rest9
      case hy9 => (intro w hSw; (try dsimp only at hSw); go_simp; all_goals (with_reducible rfl))
      try simp only [Act.put, List.setIfInBounds_toArray, List.set_cons_zero, List.set_cons_succ]
      refine wpAnyH_ready (rs := [0]) (by kernel_rfl) (by simp) ?_
      refine AllReadyH.cons rfl (fun K hK => ?_) AllReadyH.nil
      go_simp
      refine hK.out _ _ (HD5.out _ bd0) (fun hHeld => ?_)
      clear hK K
      refine wpAnyH_ready (rs := [11]) (by kernel_rfl) (by simp) ?_
      refine AllReadyH.cons rfl (fun K hK => ?_) AllReadyH.nil
      go_simp
      go_at_call 51
      refine (HA _).mono ?_
      rintro e wA ⟨rfl, bA⟩
      have bA2 := below_drawn bA
      have fA := HF.out _ bA2
      obtain ⟨p0, p1, p2, p3, p4, p5, p6, p7, p8, p9⟩ := HD'.out _ bA2
      go_simp
      refine hK.out _ _ ⟨p0, p1, p2, p3, p4⟩ (fun hHeld => ?_)
      clear hK K
      refine wpAnyH_ready (rs := [12]) (by kernel_rfl) (by simp) ?_
      refine AllReadyH.cons rfl (fun K hK => ?_) AllReadyH.nil
      go_simp
      refine hK.out _ _ (HE.out _ bA2) (fun hHeld => ?_)
      clear hK K
      refine wpAnyH_done (by kernel_rfl) ?_ _
      have RES := HG.out _ bA2
      clear HG HE HD5 HD' HF fA bA2 bA p0 p1 p2 p3 p4 p5 p6 p7 p8 p9 q0 q1 q2 q3 q4 q5 q6 q7 q8 q9 HA bd0
      go_wp2
      go_roundw
      case rel => (try ((repeat apply Exists.intro); refine ⟨?_, rfl⟩)); exact ⟨j + 1, by go_num, by omega, RES⟩
      case measure => simp [intOf]; omega
    · obtain rfl : j = l.length := by omega
      rw [List.take_length, ← HGA.out] at T
      obtain ⟨b0, b1, b2, b3, b4, bf⟩ := T.b1.cells5
      obtain ⟨d0, d1, d2, d3, d4, df⟩ := T.b2.cells5
      have hnI : ¬ ((l.length : Int) < (l.length : Int)) := by omega
      have s5 := fun v0 v1 v2 v3 v4 => (five_set (R + 8) wr o3 w.heap.size v0 v1 v2 v3 v4 T.b1.2).mono (J := XS R) fun _ h => .inr h
      have R5 := fun v0 v1 v2 v3 v4 => T.rx.scratch (s5 v0 v1 v2 v3 v4)
      have S5 := T.st
      have hne2 := hne.out
      have hne3 := hne.out.symm
      subst ei
      clear T HR HN HM
      go_wp2
      exact bodyPost_ret (v := .tuple #[aggV ga, .int .i64 0]) (by simp [results, Try.results32, go_sem, aggV, b0, b1, b2, b3, b4]) rfl ⟨rfl, _, R5 _ _ _ _ _, (S5.trans (s5 _ _ _ _ _)).xs⟩
theorem x_sum_out (x : Int) (h : Rx w o R q room n M free it S pa vi vn vl its inL ls LL) (hb : hasB n free x = false) :
    Calls Try.prog 32 #[.pointer (some ⟨q, 0, none⟩), .int .i64 x] w fun e w' => e = .returned (.tuple #[aggV Ag.zero, .int .i64 31]) ∧ Below w.heap.size w w' := by
  have h1 := h.step (allocStep (fun _ => False) w o (.cells #[.int .i64 0, .int .i64 0, .int .i64 0, .int .i64 0, .int .i64 0] 45)) (fun _ _ => id)
  have c1 := x_has x h1
  rw [hb] at c1
  clear h h1
  go_enter Try.func32, Try.ntmps32
  go_wp2_with (go_at_call 48; refine c1.mono ?_; rintro e w1 ⟨rfl, rfl⟩)
  refine bodyPost_ret (v := .tuple #[aggV Ag.zero, .int .i64 31]) ?_ rfl ⟨rfl, one_below _ _⟩
  simp [results, Try.results32, go_sem, aggV, Ag.zero]
end
end Go.Proofs.Ythdmajddmajjoaa
