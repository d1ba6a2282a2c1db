/- The document's own forest: its rows alone, and what turns them. -/
import Derived.Test.YthdmajddmajjoaaRefL
namespace Go.Proofs.Ythdmajddmajjoaa
open Go.ChangeShapes Go.WideShapes Go.ChangeAt Go.RowKit
set_option linter.unusedVariables false

theorem live_snoc {n : Nat} {free : List Nat} {h k : Nat} : Live n (free ++ [h]) k ↔ Live n free k ∧ k ≠ h := by
  constructor
  · intro hk
    have h3 := hk.2.2
    simp at h3
    exact ⟨⟨hk.1, hk.2.1, h3.1⟩, h3.2⟩
  · intro hk
    refine ⟨hk.1.1, hk.1.2.1, ?_⟩
    simp
    exact ⟨hk.1.2.2, hk.2⟩
theorem Pl.free {live live' : Nat → Prop} {S : Nat → List Nat} (p : Pl live S) {h : Nat} (hl : live h) (hs : S h = [h]) (hv : ∀ k, live' k ↔ live k ∧ k ≠ h) : Pl live' S := by
  refine ⟨fun k hk => p.self k ((hv k).1 hk).1, fun k hk j hj => ?_, fun k hk => p.nd k ((hv k).1 hk).1⟩
  obtain ⟨h1, h2⟩ := (hv k).1 hk
  obtain ⟨h3, h4⟩ := p.mem k h1 j hj
  refine ⟨(hv j).2 ⟨h3, fun e => ?_⟩, h4⟩
  subst e
  rw [hs] at h4
  have h5 := p.self k h1
  rw [← h4] at h5
  exact h2 (by simpa using h5)
theorem RP.live {live live' : Nat → Prop} {S : Nat → List Nat} {I : Nat → Nat} {LL : List (List Nat)} (h : RP live S I LL) (hl : ∀ k, live' k ↔ live k) : RP live' S I LL := h.cong hl (fun _ _ => rfl) (fun _ _ => rfl)
section
variable {w : World} {o : Nat → Nat} {R q room n M : Nat} {free : List Nat} {it : Nat → It} {S : Nat → List Nat} {pa : Nat} {vi vn vl : Value} {its : List It} {inL : List Nat} {ls : List Value} {LL : List (List Nat)}
theorem x_free_out (x : Int) (h : Rx w o R q room n M free it S pa vi vn vl its inL ls LL) (hb : hasB n free x = false) :
    Calls Try.prog 19 #[.pointer (some ⟨q, 0, none⟩), .int .i64 x] w fun e w' => e = .returned (.int .i64 31) ∧ Below w.heap.size w w' := by
  have c1 := x_has x h
  rw [hb] at c1
  clear h
  go_enter Try.func19, Try.ntmps19
  go_wp2_with (go_at_call 48; refine c1.mono ?_; rintro e w1 ⟨rfl, rfl⟩)
  go_ret
  exact ⟨rfl, Below.refl _ _⟩
theorem x_free_busy (k : Nat) (h : Rx w o R q room n M free it S pa vi vn vl its inL ls LL) (hk : Live n free k) (hs : S k ≠ [k]) :
    Calls Try.prog 19 #[.pointer (some ⟨q, 0, none⟩), .int .i64 (k : Nat)] w fun e w' => e = .returned (.int .i64 32) ∧ Below w.heap.size w w' := by
  have c1 := x_has (k : Int) h
  rw [hasB_nat hk] at c1
  have c2 := x_of k h hk
  obtain ⟨g, cap, eg, a1, a2, hc⟩ := h.list hk
  rw [eg] at c2
  have hself := h.pl.self k hk
  have h1 : (1 : Int) < ((S k).length : Int) := by
    match hS : S k with
    | [] => rw [hS] at hself; cases hself
    | [a] => rw [hS] at hself; simp at hself; subst hself; exact (hs hS).elim
    | a :: b :: l => simp; omega
  clear h hc eg
  generalize (S k).length = N at *
  go_enter Try.func19, Try.ntmps19
  go_wp2_with fail
  refine c1.mono ?_
  rintro e w1 ⟨rfl, rfl⟩
  go_wp2_with fail
  refine c2.mono ?_
  rintro e w2 ⟨rfl, m, rfl⟩
  go_wp2
  go_ret
  exact ⟨rfl, bdrw _ _⟩
theorem Rx.cellN (h : Rx w o R q room n M free it S pa vi vn vl its inL ls LL) {gn cn : Nat} (e : vn = .slice (some ⟨gn, 0, none⟩) (n + 1) cn) {k : Nat} (hk : k ≤ n) : w.cell? ⟨gn, k, none⟩ = some (.int .i64 (inL.getD k 0 : Nat)) := by
  obtain ⟨gn', _, eq, _, _, _, _, a3, _⟩ := h.rn.pos (by omega)
  rw [e] at eq
  injection eq with eq _ _
  injection eq with eq
  injection eq with eq _ _
  subst eq
  have hln := h.ln
  rw [a3 k (by omega), intsL_get _ k (by omega)]
  simp [List.getD, List.getElem?_eq_getElem (show k < inL.length by omega)]
theorem x_free_in (k : Nat) (h : Rx w o R q room n M free it S pa vi vn vl its inL ls LL) (hk : Live n free k) (hs : S k = [k]) :
    Calls Try.prog 19 #[.pointer (some ⟨q, 0, none⟩), .int .i64 (k : Nat)] w fun e w' => e = .returned (.int .i64 0) ∧ ∃ o' ls' LL', Rx w' o' R q room n M (free ++ [k]) it S pa vi vn vl its inL ls' LL' ∧ Step (XL R) w o w' o' := by
  have c1 := x_has (k : Int) h
  rw [hasB_nat hk] at c1
  have c2 := x_of k h hk
  obtain ⟨g, cap, eg, a1, a2, hc⟩ := h.list hk
  rw [eg, hs] at c2
  obtain ⟨gn, cn, gl, cl, rfl, rfl, n1, n2, l1, l2, -, -, -, -⟩ := h.at hk
  have hkn : k ≤ n := hk.2.1
  have hkI : (k : Int) < (n : Int) + 1 := by omega
  have HX : Hid (Rx w o R q room n M free it S pa vi (.slice (some ⟨gn, 0, none⟩) (n + 1) cn) (.slice (some ⟨gl, 0, none⟩) LL.length cl) its inL ls LL) := h
  clear h hc eg
  go_enter Try.func19, Try.ntmps19
  go_wp2_with fail
  refine c1.mono ?_
  rintro e w1 ⟨rfl, rfl⟩
  go_wp2_with fail
  refine c2.mono ?_
  rintro e w2 ⟨rfl, m, e2⟩
  have t2 : Step (fun _ => False) w1 o w2 o := by rw [e2]; exact (Step.refl _ w1 o).drewN m
  clear e2 c1 c2
  have h := HX.out.step t2 (fun _ _ => id)
  obtain ⟨gn', cn', gl', cl', eqn, eql, _, _, _, _, e1, e2, e3, -⟩ := h.at hk
  injection eqn with eqn _ _
  injection eqn with eqn
  injection eqn with eqn _ _
  subst eqn
  injection eql with eql _ _
  injection eql with eql
  injection eql with eql _ _
  subst eql
  obtain ⟨d0, d1, d2, d3, hf⟩ := h.blk.cells4
  have fr : ∀ j, w2.frozen? ⟨gl, j, none⟩ = false := fun j => h.rl.1.frozenAt j
  have hg : o gl = R + 6 := h.rl.2 gl rfl
  have hkX : Hid (Live n free k) := hk
  have hsX : Hid (S k = [k]) := hs
  have hix : inL.getD k 0 < LL.length := e2
  have s4 : Step (fun l => l = R + 6) w2 o (w2.setCell ⟨gl, inL.getD k 0, none⟩ (.slice none 0 0)).drew o := (((Step.refl _ w2 o)).setCell _ _ hg).drew
  have r4 : Row (w2.setCell ⟨gl, inL.getD k 0, none⟩ (.slice none 0 0)).drew o (R + 6) 60 1 (.slice (some ⟨gl, 0, none⟩) LL.length cl) LL.length (ls.set (inL.getD k 0) (.slice none 0 0)) := (h.rl.store _ _).step ((Step.refl (fun _ => False) _ _).drew) id
  obtain ⟨d0', d1', d2', d3', hf'⟩ := (h.blk.step s4 (by omega)).cells4
  have rn4 := h.rn.step s4 (by omega)
  have n5 : (w2.setCell ⟨gl, inL.getD k 0, none⟩ (.slice none 0 0)).drew.cell? ⟨gn, k, none⟩ = some (.int .i64 (inL.getD k 0 : Nat)) := by
    obtain ⟨gn', _, eq, _, _, _, _, a3, _⟩ := rn4.pos (by omega)
    injection eq with eq _ _
    injection eq with eq
    injection eq with eq _ _
    subst eq
    have hln := h.ln
    rw [a3 k (by omega), intsL_get _ k (by omega)]
    simp [List.getD, List.getElem?_eq_getElem (show k < inL.length by omega)]
  have A5 := h.ar.step s4 (fun l hl => by have := hl.1; have := hl.2; omega)
  obtain ⟨k', rfl⟩ : ∃ k', k = k' + 1 := ⟨k - 1, by have := hk.1; omega⟩
  have huse : useB free k' = true := hk.use
  have c5 := refDropIn _ o (R + 1) pa room n free k' (by omega) huse A5
  have HF : Hid (∀ wx ox, Rf wx ox (R + 1) pa room n (free ++ [k' + 1]) → Step (RL (R + 1)) (w2.setCell ⟨gl, inL.getD (k' + 1) 0, none⟩ (.slice none 0 0)).drew o wx ox → Rx wx ox R q room n M (free ++ [k' + 1]) it S pa vi (.slice (some ⟨gn, 0, none⟩) (n + 1) cn) (.slice (some ⟨gl, 0, none⟩) LL.length cl) its inL (ls.set (inL.getD (k' + 1) 0) (.slice none 0 0)) (LL.set (inL.getD (k' + 1) 0) []) ∧ Step (XL R) w1 o wx ox) := fun wx ox hA s5 => by
    have hll := h.ll
    have hm := h.many
    have hy := h.mny
    have no : ∀ i, ¬ (R + 1 ≤ i ∧ i < R + 1 + 3) → ¬ RL (R + 1) i := fun i hi hh => hi hh
    refine ⟨⟨(h.blk.step s4 (by omega)).step s5 (no _ (by omega)), hA, (h.ri.step s4 (by omega)).step s5 (no _ (by omega)), h.li, rn4.step s5 (no _ (by omega)), h.ln, ?_, by simp [hll], fun i hi => ?_, fun j hj => h.items j (live_snoc.1 hj).1, (h.rp.free h.pl hkX.out hsX.out).live (fun j => live_snoc), h.pl.free hkX.out hsX.out (fun j => live_snoc), h.small, by simp; exact hm, hy⟩, ?_⟩
    · rw [List.length_set]
      exact r4.step s5 (no _ (by omega))
    · rw [List.length_set] at hi
      by_cases e : i = inL.getD (k' + 1) 0
      · subst e
        rw [getD_set_same _ _ _ _ (by omega), getD_set_same _ _ _ _ hi]
        exact Row.nil _ _ _ _ _
      · rw [getD_set_other _ _ _ _ _ e, getD_set_other _ _ _ _ _ e]
        exact ((h.rows i hi).step s4 (by omega)).step s5 (no _ (by omega))
    · exact ((t2.mono fun _ hh => hh.elim).trans (s4.mono fun l hl => by unfold XL; omega)).trans (s5.mono fun l hl => by have := hl.1; have := hl.2; unfold XL; omega)
  clear r4 rn4 A5 s4 h t2 hk hs HX hg
  generalize inL.getD (k' + 1) 0 = ix at *
  generalize ls.getD ix (.slice none 0 0) = vx at *
  have hixI : (ix : Int) < (LL.length : Int) := by omega
  have Z0 : w2.drew.cell? ⟨q, 3, none⟩ = some (.slice (some ⟨gl, 0, none⟩) LL.length cl) ∧ w2.drew.cell? ⟨q, 2, none⟩ = some (.slice (some ⟨gn, 0, none⟩) (n + 1) cn) ∧ w2.drew.cell? ⟨gn, k' + 1, none⟩ = some (.int .i64 (ix : Nat)) := ⟨d3, d2, e1⟩
  go_wp2_with fail
  go_region_held (fun wx => wx.cell? ⟨q, 3, none⟩ = some (.slice (some ⟨gl, 0, none⟩) LL.length cl) ∧ wx.cell? ⟨q, 2, none⟩ = some (.slice (some ⟨gn, 0, none⟩) (n + 1) cn) ∧ wx.cell? ⟨gn, k' + 1, none⟩ = some (.int .i64 (ix : Nat))) (first | (with_reducible exact Z0) | (with_reducible exact ⟨d3', d2', n5⟩)) (fail)
  all_goals
    go_wp2_with fail
    refine c5.mono ?_
    rintro e w6 ⟨rfl, o6, A6, s6⟩
    obtain ⟨X6, Y6⟩ := HF.out _ _ A6 s6
    clear HF c5 A6 s6
    go_wp2
    go_ret
    exact ⟨rfl, _, _, _, X6, Y6⟩
end
end Go.Proofs.Ythdmajddmajjoaa
namespace Go.Proofs.Ythdmajddmajjoaa
open Go.ChangeShapes Go.WideShapes Go.ChangeAt Go.RowKit
set_option linter.unusedVariables false
set_option linter.unusedSimpArgs false

/-- The forest's block and rows: m places of nodes. -/
structure Rm (w : World) (o : Nat → Nat) (R q m pa : Nat) (vi vn vl : Value) (its : List It) (inL : List Nat) (ls : List Value) (LL : List (List Nat)) : Prop where
  blk : Blk w o R q (.cells #[.pointer (some ⟨pa, 0, none⟩), vi, vn, vl] 62 (0, 0))
  ri : Row w o (R + 4) 36 3 vi m (itcells its)
  li : its.length = m
  rn : Row w o (R + 5) 3 1 vn m (intsL inL)
  ln : inL.length = m
  rl : Row w o (R + 6) 60 1 vl LL.length ls
  ll : ls.length = LL.length
  rows : ∀ i, i < LL.length → Row w o (R + 10 + i) 3 1 (ls.getD i (.slice none 0 0)) (LL.getD i []).length (intsL (LL.getD i []))
  many : LL.length ≤ 5500000000000
def ML (R : Nat) : Nat → Prop := fun k => k = R ∨ k = R + 4 ∨ k = R + 5 ∨ k = R + 6 ∨ (R + 10 ≤ k ∧ k < R + 5500000000010)
theorem Rm.step {I : Nat → Prop} {w w' : World} {o o' : Nat → Nat} {R q m pa : Nat} {vi vn vl : Value} {its : List It} {inL : List Nat} {ls : List Value} {LL : List (List Nat)} (h : Rm w o R q m pa vi vn vl its inL ls LL) (s : Step I w o w' o') (hi : ∀ k, ML R k → ¬ I k) : Rm w' o' R q m pa vi vn vl its inL ls LL := by
  have hm := h.many
  exact ⟨h.blk.step s (hi _ (.inl rfl)), h.ri.step s (hi _ (.inr (.inl rfl))), h.li, h.rn.step s (hi _ (.inr (.inr (.inl rfl)))), h.ln, h.rl.step s (hi _ (.inr (.inr (.inr (.inl rfl))))), h.ll, fun i hl => (h.rows i hl).step s (hi _ (.inr (.inr (.inr (.inr ⟨by omega, by omega⟩))))), h.many⟩
theorem Rx.rm {w : World} {o : Nat → Nat} {R q room n M : Nat} {free : List Nat} {it : Nat → It} {S : Nat → List Nat} {pa : Nat} {vi vn vl : Value} {its : List It} {inL : List Nat} {ls : List Value} {LL : List (List Nat)} (h : Rx w o R q room n M free it S pa vi vn vl its inL ls LL) : Rm w o R q (n + 1) pa vi vn vl its inL ls LL := by
  have hm := h.many
  have hy := h.mny
  exact ⟨h.blk, h.ri, h.li, h.rn, h.ln, h.rl, h.ll, h.rows, by omega⟩
theorem intsL_set (l : List Nat) (j v : Nat) : (intsL l).set j (.int .i64 (v : Nat)) = intsL (l.set j v) := by
  simp [intsL, List.map_set]
section
variable {w : World} {o : Nat → Nat} {R q m pa : Nat} {vi vn vl : Value} {its : List It} {inL : List Nat} {ls : List Value} {LL : List (List Nat)}
theorem Rm.item {gi ci : Nat} (h : Rm w o R q m pa (.slice (some ⟨gi, 0, none⟩) m ci) vn vl its inL ls LL) (k : Nat) (x : It) :
    Rm (((w.setCell ⟨gi, k * 3, none⟩ (.int .i64 x.v)).setCell ⟨gi, k * 3 + 1, none⟩ (.bool x.c)).setCell ⟨gi, k * 3 + 2, none⟩ (.int .i64 (x.f : Nat))) o R q m pa (.slice (some ⟨gi, 0, none⟩) m ci) vn vl (its.set k x) inL ls LL ∧
    Step (fun l => l = R + 4) w o (((w.setCell ⟨gi, k * 3, none⟩ (.int .i64 x.v)).setCell ⟨gi, k * 3 + 1, none⟩ (.bool x.c)).setCell ⟨gi, k * 3 + 2, none⟩ (.int .i64 (x.f : Nat))) o := by
  obtain ⟨r, s⟩ := row_item h.ri (h.ri.2 gi rfl) k x
  have hli := h.li
  exact ⟨⟨h.blk.step s (by omega), r, by simp [hli], h.rn.step s (by omega), h.ln, h.rl.step s (by omega), h.ll, fun i hi => (h.rows i hi).step s (by omega), h.many⟩, s⟩
theorem Rm.inn {gn cn : Nat} (h : Rm w o R q m pa vi (.slice (some ⟨gn, 0, none⟩) m cn) vl its inL ls LL) (k v : Nat) :
    Rm (w.setCell ⟨gn, k, none⟩ (.int .i64 (v : Nat))) o R q m pa vi (.slice (some ⟨gn, 0, none⟩) m cn) vl its (inL.set k v) ls LL ∧
    Step (fun l => l = R + 5) w o (w.setCell ⟨gn, k, none⟩ (.int .i64 (v : Nat))) o := by
  have hg : o gn = R + 5 := h.rn.2 gn rfl
  have s : Step (fun l => l = R + 5) w o (w.setCell ⟨gn, k, none⟩ (.int .i64 (v : Nat))) o := (Step.refl _ w o).setCell _ _ hg
  have r := h.rn.store k (.int .i64 (v : Nat))
  rw [intsL_set] at r
  have hln := h.ln
  exact ⟨⟨h.blk.step s (by omega), h.ri.step s (by omega), h.li, r, by simp [hln], h.rl.step s (by omega), h.ll, fun i hi => (h.rows i hi).step s (by omega), h.many⟩, s⟩
/-- Items and In have grown by one. -/
theorem Rm.grown {wA w2 : World} {oA o2 : Nat → Nat} {gi ci gn cn : Nat} {x : It} (h : Rm w o R q m pa vi vn vl its inL ls LL)
    (ra : Row wA oA (R + 4) 36 3 (.slice (some ⟨gi, 0, none⟩) (m + 1) ci) (m + 1) (itcells its ++ [.int .i64 x.v, .bool x.c, .int .i64 (x.f : Nat)])) (sA : Step (fun k => k = R + 4) w o wA oA)
    (rb : Row w2 o2 (R + 5) 3 1 (.slice (some ⟨gn, 0, none⟩) (m + 1) cn) (m + 1) (intsL inL ++ [.int .i64 0])) (s2 : Step (fun k => k = R + 5) (wA.setCell ⟨q, 1, none⟩ (.slice (some ⟨gi, 0, none⟩) (m + 1) ci)) oA w2 o2) :
    Rm (w2.setCell ⟨q, 2, none⟩ (.slice (some ⟨gn, 0, none⟩) (m + 1) cn)) o2 R q (m + 1) pa (.slice (some ⟨gi, 0, none⟩) (m + 1) ci) (.slice (some ⟨gn, 0, none⟩) (m + 1) cn) vl (its ++ [x]) (inL ++ [0]) ls LL ∧ Step (XL R) w o (w2.setCell ⟨q, 2, none⟩ (.slice (some ⟨gn, 0, none⟩) (m + 1) cn)) o2 := by
  have b1 := h.blk.step sA (by omega)
  have t1 := setStep (fun k => k = R) wA oA ⟨q, 1, none⟩ (.slice (some ⟨gi, 0, none⟩) (m + 1) ci) b1.2
  have b2 := (b1.set 1 (.slice (some ⟨gi, 0, none⟩) (m + 1) ci)).step s2 (by omega)
  have t2 := setStep (fun k => k = R) w2 o2 ⟨q, 2, none⟩ (.slice (some ⟨gn, 0, none⟩) (m + 1) cn) b2.2
  rw [← itcells_snoc] at ra
  have rb' : Row w2 o2 (R + 5) 3 1 (.slice (some ⟨gn, 0, none⟩) (m + 1) cn) (m + 1) (intsL (inL ++ [0])) := by
    have e : intsL (inL ++ [0]) = intsL inL ++ [.int .i64 0] := by simp [intsL]
    rw [e]
    exact rb
  have hli := h.li
  have hln := h.ln
  have hm := h.many
  refine ⟨⟨b2.set 2 _, ((ra.step t1 (by omega)).step s2 (by omega)).step t2 (by omega), by simp [hli], rb'.step t2 (by omega), by simp [hln], (((h.rl.step sA (by omega)).step t1 (by omega)).step s2 (by omega)).step t2 (by omega), h.ll, fun i hi => ((((h.rows i hi).step sA (by omega)).step t1 (by omega)).step s2 (by omega)).step t2 (by omega), hm⟩, ?_⟩
  have u : ∀ l, R ≤ l → l < R + 10 → XL R l := fun l h1 h2 => ⟨h1, by omega⟩
  exact (((sA.mono fun l hl => u l (by omega) (by omega)).trans (t1.mono fun l hl => u l (by omega) (by omega))).trans (s2.mono fun l hl => u l (by omega) (by omega))).trans (t2.mono fun l hl => u l (by omega) (by omega))
/-- L has grown by a list of its own. -/
theorem Rm.pushed {w1 w2 : World} {o1 o2 : Nat → Nat} {gl cl : Nat} {v : Value} {l : List Nat} (h : Rm w o R q m pa vi vn vl its inL ls LL) (hm : LL.length < 5500000000000) (s1 : Step (fun k => k = R + 10 + LL.length) w o w1 o1)
    (rv : Row w1 o1 (R + 10 + LL.length) 3 1 v l.length (intsL l))
    (rl : Row w2 o2 (R + 6) 60 1 (.slice (some ⟨gl, 0, none⟩) (LL.length + 1) cl) (LL.length + 1) (ls ++ [v])) (s2 : Step (fun k => k = R + 6) w1 o1 w2 o2) :
    Rm (w2.setCell ⟨q, 3, none⟩ (.slice (some ⟨gl, 0, none⟩) (LL.length + 1) cl)) o2 R q m pa vi vn (.slice (some ⟨gl, 0, none⟩) (LL.length + 1) cl) its inL (ls ++ [v]) (LL ++ [l]) ∧ Step (XL R) w o (w2.setCell ⟨q, 3, none⟩ (.slice (some ⟨gl, 0, none⟩) (LL.length + 1) cl)) o2 := by
  have b2 := (h.blk.step s1 (by omega)).step s2 (by omega)
  have t2 := setStep (fun k => k = R) w2 o2 ⟨q, 3, none⟩ (.slice (some ⟨gl, 0, none⟩) (LL.length + 1) cl) b2.2
  have hll := h.ll
  have el : (LL ++ [l]).length = LL.length + 1 := by simp
  refine ⟨⟨b2.set 3 _, ((h.ri.step s1 (by omega)).step s2 (by omega)).step t2 (by omega), h.li, ((h.rn.step s1 (by omega)).step s2 (by omega)).step t2 (by omega), h.ln, by rw [el]; exact rl.step t2 (by omega), by simp [hll], fun i hi => ?_, by simp; omega⟩, ?_⟩
  · by_cases e : i < LL.length
    · rw [getD_snoc_old _ _ _ _ (by omega), getD_snoc_old _ _ _ _ e]
      exact (((h.rows i e).step s1 (by omega)).step s2 (by omega)).step t2 (by omega)
    · obtain rfl : i = LL.length := by omega
      rw [getD_snoc_new]
      have e2 : (ls ++ [v]).getD LL.length (.slice none 0 0) = v := by rw [← hll]; exact getD_snoc_new _ _ _
      rw [e2]
      exact (rv.step s2 (by omega)).step t2 (by omega)
  · exact ((s1.mono fun l hl => by unfold XL; omega).trans (s2.mono fun l hl => by unfold XL; omega)).trans (t2.mono fun l hl => by unfold XL; omega)
end
end Go.Proofs.Ythdmajddmajjoaa
