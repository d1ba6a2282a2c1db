/- Bounds of tokens. No program. -/
import Derived.Test.YtojleoionpnjpaaGreatDoorTypW
import Derived.Deep.RegionHeld3
import Derived.Deep.RegionLaw
import Derived.WalkLawsBesides
import Derived.Deep.RegionHeld
namespace Go.Proofs.YtojleoionpnjpaaGreatDoor
open Go.ChangeShapes Go.WideShapes Go.ChangeAt Go.RowKit
set_option linter.unusedVariables false
set_option linter.unusedSimpArgs false

theorem Row.madeS {w : World} {o : Nat → Nat} {i n : Nat} {e : TypeId} {size : Nat} {X : Array Value} {xs : List Value} (h : X.toList = xs) (hs : X.size = n * size) (hm : n ≤ maxLen) : Row (w.alloc (.cells X e)) (newLab w o i) i e size (.slice (some ⟨w.heap.size, 0, none⟩) n n) n xs := by
  subst h
  refine ⟨World.ownsRow_lit w _ n (Nat.zero_le _) hm hs, fun k hk => ?_⟩
  simp [Value.ownBlock] at hk
  subst hk
  exact newLab_new (Nat.le_refl _)
theorem below_stepT {I : Nat → Prop} {n0 : Nat} {a w w' : World} {o o' : Nat → Nat} (b : Below n0 a w) (s : Step I w o w' o') (h : ∀ k, k < n0 → ¬ I (o k)) (hn : n0 ≤ a.heap.size) : Below n0 a w' :=
  ⟨s.os.trans b.os, s.tape.trans b.tape, s.output.trans b.output, Nat.le_trans b.size s.size, fun k hk => (s.block k (by have := b.size; omega) (h k hk)).trans (b.block k hk)⟩
abbrev I1n : Nat → Prop := fun k => k = 1
set_option maxRecDepth 100000 in
theorem cloneS {w : World} {v : Value} {b : List (List UInt8)} (h : Nms w v b) (o : Nat → Nat) (hl : b.length ≤ 100000) :
    Calls Tryz.prog 72 #[v] w fun e w' => ∃ ao cap o', e = .returned (.slice ao b.length cap) ∧ Row w' o' 1 9 1 (.slice ao b.length cap) b.length (b.map fun x => stv x) ∧ Step I1n w o w' o' := by
  obtain ⟨ii, hii, hzi0, hzi1, hzi2⟩ := info_parts infoStrT
  have hnil : ∀ (W : World) (a : Option Addr) (n c : Nat), (binOp .eql 61 (.slice a n c) (.slice none 0 0)).run Tryz.prog W = .ok (.bool a.isNone) W := fun W a n c => Lib.run_eql_slice_nil W _ _ a n c 0 0 Tryz.underlying61
  obtain ⟨ao, cap, rfl, hcap, hp⟩ := h
  rcases hp with ⟨rfl, rfl⟩ | ⟨g, rfl, hg, hpos, hcell⟩
  · go_enter Tryz.func72, Tryz.ntmps72
    go_wp2
    go_ret
    exact ⟨none, 0, o, rfl, Row.nil _ _ _ _ _, Step.refl _ _ _⟩
  · have s0 := newStep (fun _ => False) w o 1 (.cells #[] 9)
    have R0 : Row (w.alloc (.cells #[] 9)) (newLab w o 1) 1 9 1 (.slice (some ⟨w.heap.size, 0, none⟩) 0 0) 0 [] := Row.madeS (X := #[]) rfl rfl (by unfold maxLen; omega)
    have hnews : ∀ j u, (b.map fun x => stv x)[j]? = some u → (w.alloc (.cells #[] 9)).cell? ((⟨g, 0, none⟩ : Addr).add j) = some u := fun j u hj => by
      rw [List.getElem?_map] at hj
      cases hb : b[j]? with
      | none => rw [hb] at hj; cases hj
      | some t =>
        rw [hb] at hj
        injection hj with hj
        subst hj
        have h2 : (w.alloc (.cells #[] 9)).cell? ⟨g, j, none⟩ = w.cell? ⟨g, j, none⟩ := World.cell?_of_block (w := w) (a := ⟨g, j, none⟩) (s0.block g hg (fun h => h))
        have h3 : ((⟨g, 0, none⟩ : Addr).add j) = ⟨g, j, none⟩ := by simp [Addr.add]; exact Eq.symm
        rw [h3, h2]
        exact hcell j t hb
    have hone : ∀ u ∈ (b.map fun x => stv x), u.oneCell' = true := fun u hu => by
      obtain ⟨x, _, rfl⟩ := List.mem_map.1 hu; rfl
    clear hcell
    have hlen : (b.map fun x => stv x).length = b.length := List.length_map _
    generalize (b.map fun x => stv x) = xs at *
    go_enter Tryz.func72, Tryz.ntmps72
    go_wp2_with (first | (at_builtin; refine wpList_append_lab rfl (.tmp 5) (.tmp 6) 61 rfl 9 ii (.string ⟨#[]⟩) 1 16 Tryz.underlying61 hii hzi0 hzi1 hzi2 rfl (by decide) _ 1 _ 0 [] rfl R0 ⟨g, 0, none⟩ b.length cap xs rfl ?c1 hnews hone (by omega) ?c3 ?c4 ?_) | go_in)
    case c1 => rw [hlen]; omega
    case c3 => unfold maxLen; omega
    case c4 => omega
    intro g7 c7 w7 o7 r7 s7
    have HS : Hid (Step I1n w o w7 o7 ∧ Row w7 o7 1 9 1 (.slice (some ⟨g7, 0, none⟩) b.length c7) b.length xs) := by
      refine ⟨(s0.mono fun _ h => h.elim).trans s7, ?_⟩
      simpa using r7
    clear s7 r7 s0 R0 hnews hone
    go_wp2
    go_ret
    exact ⟨some ⟨g7, 0, none⟩, c7, o7, by simp, HS.out.2, HS.out.1⟩
/-- The names that are bound in a kid. -/
def bndI (k : Int) (nm : List UInt8) (i : Nat) (b : List (List UInt8)) : List (List UInt8) := if k = 21 ∧ i ≠ 0 then b ++ [nm] else b
theorem Nms.ofRow {w : World} {o : Nat → Nat} {g cap : Nat} {b : List (List UInt8)} {n : Nat} (h : Row w o 1 9 1 (.slice (some ⟨g, 0, none⟩) n cap) n (b.map fun x => stv x)) (hn : b.length = n) (h0 : 0 < n) : Nms w (.slice (some ⟨g, 0, none⟩) n cap) b := by
  subst hn
  obtain ⟨g', cap', e1, _, h2, _, h4, h5, _⟩ := h.pos h0
  injection e1 with e1 e2 e3
  injection e1 with e1
  injection e1 with e1
  subst e1
  subst e3
  refine ⟨_, _, rfl, h2, .inr ⟨g, rfl, h4, h0, fun j t hj => ?_⟩⟩
  have hj2 : j < b.length := (List.getElem?_eq_some_iff.1 hj).1
  rw [h5 j (by omega), List.getElem?_map, hj]
  rfl
theorem new_one_step {I : Nat → Prop} {w w1 : World} {o o1 : Nat → Nat} {x : Value} {t : TypeId} (s : Step I (w.alloc (.cells #[x] t)).drew o w1 o1) (h : ¬ I (o w.heap.size)) : ∀ j u, [x][j]? = some u → w1.cell? ((⟨w.heap.size, 0, none⟩ : Addr).add j) = some u := by
  intro j u hj
  have h3 : ((⟨w.heap.size, 0, none⟩ : Addr).add j) = ⟨w.heap.size, j, none⟩ := by simp [Addr.add]; exact Eq.symm
  have h4 := new_one w x t j u hj
  rw [h3] at h4 ⊢
  exact (World.cell?_of_block (w := (w.alloc (.cells #[x] t)).drew) (a := ⟨w.heap.size, j, none⟩) (s.block w.heap.size (by simp) h)).trans h4
set_option maxRecDepth 100000 in
theorem boundIn_c (e : Ex) (ao : Option Addr) (cap i : Nat) (bv : Value) (b : List (List UInt8)) (w : World) (h : Nms w bv b) (hl : b.length ≤ 10000) :
    Calls Tryz.prog 47 #[exV e ao cap, .int .i64 (i : Nat), bv] w fun x w' => ∃ v, x = .returned v ∧ Nms w' v (bndI e.k e.nm i b) ∧ Below w.heap.size w w' := by
  obtain ⟨ii, hii, hzi0, hzi1, hzi2⟩ := info_parts infoStrT
  have B0 : Below w.heap.size w (w.alloc (.cells #[.int .i64 e.k, .int .i64 e.n, stv e.nm, .slice ao e.kids.len cap, .int .i64 e.a] 25)) := (Below.refl _ w).alloc (Nat.le_refl _) _
  have E0 : (w.alloc (.cells #[.int .i64 e.k, .int .i64 e.n, stv e.nm, .slice ao e.kids.len cap, .int .i64 e.a] 25)).heap[w.heap.size]? = some (.cells #[.int .i64 e.k, .int .i64 e.n, stv e.nm, .slice ao e.kids.len cap, .int .i64 e.a] 25) := heap_alloc_new w _
  have N0' := h.below B0
  have HN : Hid (Nms w bv b) := h
  clear h
  rw [exV_out]
  go_enter Tryz.func47, Tryz.ntmps47
  go_upto_region 1 with fail
  generalize w.alloc (.cells #[.int .i64 e.k, .int .i64 e.n, stv e.nm, .slice ao e.kids.len cap, .int .i64 e.a] 25) = w0 at *
  obtain ⟨bx, hbx⟩ : ∃ bx, bx = w.heap.size := ⟨_, rfl⟩
  rw [← hbx] at E0 B0 ⊢
  have HB : Hid (bx = w.heap.size) := hbx
  clear hbx
  obtain ⟨p0, p1, p2, p3, p4, pf⟩ := box5 E0
  have hbx0 := lt_of_block E0
  by_cases hk : e.k = 21
  · have hk1 : (e.k != 21) = false := by simp [hk]
    by_cases hi : i = 0
    · have hi0 : ((i : Int) == 0) = true := by simp [hi]
      have FIN : Hid (bndI e.k e.nm i b = b) := by show _ = _; unfold bndI; rw [if_neg (by omega)]
      go_wp2
      refine bodyPost_ret (v := bv) (by simp [results, Tryz.results47, go_sem]) rfl ⟨bv, rfl, ?_, by rw [← HB.out]; exact B0⟩
      rw [FIN.out]
      exact N0'
    · have hi0 : ((i : Int) == 0) = false := by simp; omega
      have FIN : Hid (bndI e.k e.nm i b = b ++ [e.nm]) := by show _ = _; unfold bndI; rw [if_pos ⟨hk, hi⟩]
      have hc1 := fun (wx : World) (hx : Nms wx bv b) => cloneS hx (fun _ => 0) (by omega)
      go_wp2_with fail
      clear hk1 hi0 p0 p1 p3 p4
      have Bd : Below w0.heap.size w0 w0.drew := ⟨rfl, rfl, rfl, Nat.le_refl _, fun _ _ => rfl⟩
      have Bda := Bd.alloc (Nat.le_refl _) (.cells #[stv e.nm] 9)
      have hone : ∀ u ∈ [stv e.nm], u.oneCell' = true := by intro u hu; simp at hu; subst hu; rfl
      have b1 : b.length + 1 ≤ maxLen := by unfold maxLen; omega
      have b2 : (b.length + 1) * 16 ≤ 140737488355328 := by omega
      have hmap : (b ++ [e.nm]).map (fun x => stv x) = (b.map fun x => stv x) ++ [stv e.nm] := by simp
      go_region_law (first
        | (go_simp; go_at_call 72; refine (hc1 _ (N0'.below (by first | exact Bd | exact Bda))).mono ?_; rintro x w1 ⟨a1, c1, o1, rfl, R1, s1⟩; have Bw : Below w0.heap.size w0 w1 := (by first | exact Bd.trans ((s1.below (fun _ _ => by decide)).mono (by simp)) | exact Bda.trans ((s1.below (fun _ _ => by decide)).mono (by simp))); have q2 := (Bw.cell (p := ⟨bx, 2, none⟩) hbx0).trans p2; have L1 : ∀ k, k < w0.heap.size → ¬ I1n (o1 k) := fun k hk => by (rw [s1.lab k (by simp; omega)]; decide))
        | (refine step_append_lab rfl (.tmp 16) (.tmp 19) 61 rfl 9 ii (.string ⟨#[]⟩) 1 16 Tryz.underlying61 hii hzi0 hzi1 hzi2 rfl (by decide) o1 1 _ b.length (b.map fun x => stv x) (by simp [Act.eval]) (R1.step (((Step.refl (fun _ => False) w1 o1)).alloc _) (by simp)) ⟨w1.heap.size, 0, none⟩ 1 1 [stv e.nm] (by simp [Act.eval]) rfl (new_one_at (by simp) _ _) hone (by decide) b1 b2 ?_; intro g5 c5 w5 o5 r5 s5; have Bz := below_stepT (Bw.alloc Bw.size (.cells #[stv e.nm] 9)) s5 L1 (Nat.le_refl _))
        | (refine step_append_lab rfl (.tmp 16) (.tmp 19) 61 rfl 9 ii (.string ⟨#[]⟩) 1 16 Tryz.underlying61 hii hzi0 hzi1 hzi2 rfl (by decide) o1 1 _ b.length (b.map fun x => stv x) (by simp [Act.eval]) R1 ⟨w0.heap.size, 0, none⟩ 1 1 [stv e.nm] (by simp [Act.eval]) rfl (new_one_step s1 (by decide)) hone (by decide) b1 b2 ?_; intro g5 c5 w5 o5 r5 s5; have Bz := below_stepT Bw s5 L1 (Nat.le_refl _)))
      all_goals (
        have HZ : Hid (Nms w5 (.slice (some ⟨g5, 0, none⟩) (b.length + 1) c5) (b ++ [e.nm]) ∧ Below bx w w5) := by
          refine ⟨Nms.ofRow (by rw [hmap]; exact r5) (by simp) (by omega), B0.trans (Bz.mono (by omega))⟩
        clear r5 s5 Bz
        go_wp2
        refine bodyPost_ret (v := .slice (some ⟨g5, 0, none⟩) (b.length + 1) c5) (by simp [results, Tryz.results47, go_sem]) rfl ⟨_, rfl, ?_, by rw [← HB.out]; exact HZ.out.2⟩
        rw [FIN.out]
        exact HZ.out.1)
  · have hk1 : (e.k != 21) = true := by simp [hk]
    have FIN : Hid (bndI e.k e.nm i b = b) := by show _ = _; unfold bndI; rw [if_neg (fun h => hk h.1)]
    go_wp2
    refine bodyPost_ret (v := bv) (by simp [results, Tryz.results47, go_sem]) rfl ⟨bv, rfl, ?_, by rw [← HB.out]; exact B0⟩
    rw [FIN.out]
    exact N0'
end Go.Proofs.YtojleoionpnjpaaGreatDoor
namespace Go.Proofs.YtojleoionpnjpaaGreatDoor
open Go.ChangeShapes Go.WideShapes Go.ChangeAt Go.RowKit
set_option linter.unusedVariables false
set_option linter.unusedSimpArgs false

theorem below_drewT (w : World) : Below w.heap.size w w.drew := ⟨rfl, rfl, rfl, Nat.le_refl _, fun _ _ => rfl⟩
set_option maxRecDepth 100000 in
theorem byNumber1_c {w : World} {b m : Nat} {T : List (List Int)} {ks : List Int} {k : Int} (h : Byn w b m T) (n : Nat) (hT : T[n]? = some ks) (hnm : n < m) (hm : m ≤ 20) (hl3 : ks.length ≤ 3) (ev0 ev2 ev3 ev4 : Value) (h0 : ev0.oneCell' = true) (h2 : ev2.oneCell' = true) (h3 : ev3.oneCell' = true) (h4 : ev4.oneCell' = true) (da : Option Addr) (i dc : Nat) (hk : ks[i]? = some k) :
    Calls Tryz.prog 70 #[.agg #[ev0, .int .i64 (n : Nat), ev2, ev3, ev4], .slice da i dc, .pointer (some ⟨b, 0, none⟩)] w fun e w' => e = .returned (.int .i64 k) ∧ Below w.heap.size w w' := by
  have B0 : Below w.heap.size w (w.alloc (.cells #[ev0, .int .i64 (n : Nat), ev2, ev3, ev4] 25)) := (Below.refl _ w).alloc (Nat.le_refl _) _
  have E0 : (w.alloc (.cells #[ev0, .int .i64 (n : Nat), ev2, ev3, ev4] 25)).heap[w.heap.size]? = some (.cells #[ev0, .int .i64 (n : Nat), ev2, ev3, ev4] 25) := heap_alloc_new w _
  obtain ⟨hb, g, cap, c0, hg, hF⟩ := h.below B0
  have hne : ks ≠ [] := by intro h; subst h; simp at hk
  obtain ⟨v, c1, bb, rfl, F1⟩ := hF n ks hT hne
  clear h hF hT hne
  go_enter Tryz.func70, Tryz.ntmps70
  go_upto_region 1 with fail
  generalize w.alloc (.cells #[ev0, .int .i64 (n : Nat), ev2, ev3, ev4] 25) = w0 at *
  obtain ⟨bx, hbx⟩ : ∃ bx, bx = w.heap.size := ⟨_, rfl⟩
  rw [← hbx] at E0 B0 ⊢
  have HB : Hid (bx = w.heap.size) := hbx
  clear hbx
  obtain ⟨p0, p1, p2, p3, p4, pf⟩ := box5 E0
  have hbx0 := lt_of_block E0
  have F2 : Fxd w0.drew bb ks := F1.below (below_drewT w0)
  have hcl := fixed1_c F2 ev0 (.int .i64 (n : Nat)) ev2 ev3 ev4 da i dc hk hl3
  have hnI : (n : Int) < (m : Int) := by omega
  go_wp2_with fail
  go_region_held3 (fun wx => wx.cell? ⟨b, 0, none⟩ = some (.slice (some ⟨g, 0, none⟩) m cap) ∧ wx.cell? ⟨g, n, none⟩ = some (.func (.func 69) #[] #[.pointer (some ⟨bb, 0, none⟩)]) ∧ wx.cell? ⟨bx, 0, none⟩ = some ev0 ∧ wx.cell? ⟨bx, 1, none⟩ = some (.int .i64 (n : Nat)) ∧ wx.cell? ⟨bx, 2, none⟩ = some ev2 ∧ wx.cell? ⟨bx, 3, none⟩ = some ev3 ∧ wx.cell? ⟨bx, 4, none⟩ = some ev4) (first | exact K | go_keep) ((go_at_call 69; refine hcl.mono ?_; rintro x w1 ⟨rfl, b1⟩; have K := And.intro ((b1.cell (p := ⟨b, 0, none⟩) hb).trans c0) (And.intro ((b1.cell (p := ⟨g, n, none⟩) hg).trans c1) (And.intro ((b1.cell (p := ⟨bx, 0, none⟩) hbx0).trans p0) (And.intro ((b1.cell (p := ⟨bx, 1, none⟩) hbx0).trans p1) (And.intro ((b1.cell (p := ⟨bx, 2, none⟩) hbx0).trans p2) (And.intro ((b1.cell (p := ⟨bx, 3, none⟩) hbx0).trans p3) ((b1.cell (p := ⟨bx, 4, none⟩) hbx0).trans p4))))))))
  all_goals (
    have HZ : Hid (Below bx w w1) := B0.trans (((below_drewT w0).trans b1).mono (Nat.le_of_lt hbx0))
    clear K b1 hcl F1 F2 B0 E0
    go_wp2
    exact bodyPost_ret (v := .int .i64 k) (by simp [results, Tryz.results70, go_sem]) rfl ⟨rfl, by rw [← HB.out]; exact HZ.out⟩)
theorem fixL_n {k : Int} (n : Int) (h1 : k ≠ 20) (h2 : k ≠ 21) : fixL k n = fixL k 0 := by
  unfold fixL
  simp only [h1, h2, if_false]
theorem ruleT_fix {k n : Int} {len : Nat} {d : List Int} (h1 : k ≠ 13) (h2 : k ≠ 14) (h3 : k ≠ 19) (h4 : k ≠ 25) : ruleT k n len d = (fixL k n)[d.length]?.getD 0 := by
  unfold ruleT
  rw [if_neg (by omega), if_neg (by omega), if_neg (by omega)]
theorem fixL_le (k n : Int) : (fixL k n).length ≤ 3 := by
  have hi : ∀ (P : Prop) [Decidable P] (a b : List Int), a.length ≤ 3 → b.length ≤ 3 → (if P then a else b).length ≤ 3 := by
    intro P _ a b ha hb
    split
    · exact ha
    · exact hb
  unfold fixL
  repeat' apply hi
  all_goals decide
/-- What a rule answers. -/
def RulA (w' : World) (k : Int) (n a : Int) (nm : List UInt8) (ka : Option Addr) (len kc : Nat) (dv : Value) (d : List Int) (F : Nat) (c : Array Value) : Prop :=
  Calls Tryz.prog F (#[.agg #[.int .i64 k, .int .i64 n, stv nm, .slice ka len kc, .int .i64 a], dv] ++ c) w' fun e w'' => e = .returned (.int .i64 (ruleT k n len d)) ∧ Below w'.heap.size w' w''
set_option maxRecDepth 100000 in
theorem rul_ok {w : World} {v : Value} {k : Nat} (h : RuV w v k) : ∃ F c, v = .func (.func F) #[] c ∧ (∀ (args : Array Value) (w : World), (callFunc F args).run Tryz.prog w = .ok (.enter F args) w) ∧
    ∀ (w' : World), Below w.heap.size w w' → ∀ (n a : Int) (nm : List UInt8) (ka : Option Addr) (len kc : Nat) (dv : Value) (d : List Int), Kns w' dv d → okR k n len → d.length ≤ len → RulA w' k n a nm ka len kc dv d F c := by
  rcases h with ⟨⟨b, rfl, h⟩, h13, h14, h19, h25, h20, h21⟩ | ⟨rfl, hk⟩ | ⟨rfl, hk⟩ | ⟨rfl, hk⟩ | ⟨b, rfl, ⟨hk, h⟩ | ⟨hk, h⟩⟩
  · refine ⟨_, _, rfl, fun args w => by kernel_rfl, fun w' B n a nm ka len kc dv d hd ho hl => ?_⟩
    obtain ⟨da, dc, rfl, -⟩ := hd
    have hlen : (fixL k 0).length = len + 1 := by
      rcases ho with ho | ⟨ho, -⟩ | ⟨ho, -⟩ | ⟨-, ho⟩
      · omega
      · omega
      · omega
      · exact ho
    have hx : (fixL k 0)[d.length]? = some ((fixL k 0)[d.length]'(by omega)) := List.getElem?_eq_getElem (by omega)
    have hr : ruleT k n len d = (fixL k 0)[d.length]'(by omega) := by
      rw [ruleT_fix (by omega) (by omega) (by omega) (by omega), fixL_n n (by omega) (by omega), hx]
      rfl
    unfold RulA
    rw [hr]
    exact fixed1_c (h.below B) _ _ _ _ _ da d.length dc hx (fixL_le _ _)
  · refine ⟨_, _, rfl, fun args w => by kernel_rfl, fun w' B n a nm ka len kc dv d hd ho hl => ?_⟩
    unfold RulA
    refine (alike_c hd _ _ _ _ _).mono ?_
    rintro e w'' ⟨rfl, b1⟩
    refine ⟨?_, b1⟩
    unfold ruleT
    rw [if_pos (by omega)]
    rcases d with _ | ⟨x, _ | ⟨y, r⟩⟩ <;> rfl
  · refine ⟨_, _, rfl, fun args w => by kernel_rfl, fun w' B n a nm ka len kc dv d hd ho hl => ?_⟩
    unfold RulA
    refine (choice_c hd _ _ _ _ _).mono ?_
    rintro e w'' ⟨rfl, b1⟩
    refine ⟨?_, b1⟩
    unfold ruleT
    rw [if_neg (by omega), if_pos (by omega)]
    rcases d with _ | ⟨x, _ | ⟨y, r⟩⟩ <;> rfl
  · refine ⟨_, _, rfl, fun args w => by kernel_rfl, fun w' B n a nm ka len kc dv d hd ho hl => ?_⟩
    unfold RulA
    refine (members_c hd _ _ _ _ ka len kc).mono ?_
    rintro e w'' ⟨rfl, b1⟩
    have hr : ruleT k n len d = if d.length < len then 3 else 4 := by
      unfold ruleT
      rw [if_neg (by omega), if_neg (by omega), if_pos (by omega)]
    exact ⟨by rw [hr], b1⟩
  · refine ⟨_, _, rfl, fun args w => by kernel_rfl, fun w' B n a nm ka len kc dv d hd ho hl => ?_⟩
    obtain ⟨da, dc, rfl, -⟩ := hd
    subst hk
    obtain ⟨hn, hlen⟩ : (1 ≤ n ∧ n ≤ 10) ∧ (fixL 20 n).length = len + 1 := by
      rcases ho with ho | ⟨-, h1, h2⟩ | ⟨ho, -⟩ | ⟨ho, -⟩
      · omega
      · exact ⟨h1, h2⟩
      · omega
      · omega
    obtain ⟨j, rfl⟩ : ∃ j : Nat, n = (j : Int) := ⟨n.toNat, by omega⟩
    have hT : callT[j]? = some (fixL 20 (j : Int)) := by
      have h3 : j = 1 ∨ j = 2 ∨ j = 3 ∨ j = 4 ∨ j = 5 ∨ j = 6 ∨ j = 7 ∨ j = 8 ∨ j = 9 ∨ j = 10 := by omega
      rcases h3 with rfl | rfl | rfl | rfl | rfl | rfl | rfl | rfl | rfl | rfl <;> rfl
    have hx : (fixL 20 j)[d.length]? = some ((fixL 20 j)[d.length]'(by omega)) := List.getElem?_eq_getElem (by omega)
    have hr : ruleT ((20 : Nat) : Int) j len d = (fixL 20 j)[d.length]'(by omega) := by
      rw [ruleT_fix (by omega) (by omega) (by omega) (by omega)]
      show (fixL 20 j)[d.length]?.getD 0 = _
      rw [hx]
      rfl
    unfold RulA
    rw [hr]
    exact byNumber1_c (h.below B) j hT (by omega) (by omega) (fixL_le _ _) _ _ _ _ rfl rfl rfl rfl da d.length dc hx
  · refine ⟨_, _, rfl, fun args w => by kernel_rfl, fun w' B n a nm ka len kc dv d hd ho hl => ?_⟩
    obtain ⟨da, dc, rfl, -⟩ := hd
    subst hk
    obtain ⟨hn, hlen⟩ : (1 ≤ n ∧ n ≤ 6) ∧ (fixL 21 n).length = len + 1 := by
      rcases ho with ho | ⟨ho, -⟩ | ⟨-, h1, h2⟩ | ⟨ho, -⟩
      · omega
      · omega
      · exact ⟨h1, h2⟩
      · omega
    obtain ⟨j, rfl⟩ : ∃ j : Nat, n = (j : Int) := ⟨n.toNat, by omega⟩
    have hT : quantT[j]? = some (fixL 21 (j : Int)) := by
      have h3 : j = 1 ∨ j = 2 ∨ j = 3 ∨ j = 4 ∨ j = 5 ∨ j = 6 := by omega
      rcases h3 with rfl | rfl | rfl | rfl | rfl | rfl <;> rfl
    have hx : (fixL 21 j)[d.length]? = some ((fixL 21 j)[d.length]'(by omega)) := List.getElem?_eq_getElem (by omega)
    have hr : ruleT ((21 : Nat) : Int) j len d = (fixL 21 j)[d.length]'(by omega) := by
      rw [ruleT_fix (by omega) (by omega) (by omega) (by omega)]
      show (fixL 21 j)[d.length]?.getD 0 = _
      rw [hx]
      rfl
    unfold RulA
    rw [hr]
    exact byNumber1_c (h.below B) j hT (by omega) (by omega) (fixL_le _ _) _ _ _ _ rfl rfl rfl rfl da d.length dc hx
end Go.Proofs.YtojleoionpnjpaaGreatDoor
namespace Go.Proofs.YtojleoionpnjpaaGreatDoor
open Go.ChangeShapes Go.WideShapes Go.ChangeAt Go.RowKit
set_option linter.unusedVariables false
set_option linter.unusedSimpArgs false

/-- What one of the kids is. -/
theorem Sl.kidQ {P : Nat → Prop} {w : World} {x r : Fs} {k n : Int} {nm : List UInt8} {a : Int} {ks : Fs} {ao : Option Addr} (h : Sl w P (x.app (.cons k n nm a ks r)) ao) : ∃ b off ak ck, ao = some ⟨b, off, none⟩ ∧ b < w.heap.size ∧ P b ∧ w.cell? ⟨b, off + x.len * 5, none⟩ = some (.int .i64 k) ∧ w.cell? ⟨b, off + x.len * 5 + 1, none⟩ = some (.int .i64 n) ∧ w.cell? ⟨b, off + x.len * 5 + 2, none⟩ = some (stv nm) ∧ w.cell? ⟨b, off + x.len * 5 + 3, none⟩ = some (.slice ak ks.len ck) ∧ w.cell? ⟨b, off + x.len * 5 + 4, none⟩ = some (.int .i64 a) ∧ Sl w P ks ak := by
  rcases h with h | ⟨b, off, zs, rfl, hp, hlt, hc, hf⟩
  · cases x using Fs.on with
    | nil => cases h
    | cons k n nm a ks r => cases h
  · obtain ⟨zx, zy, rfl, h3, h4⟩ := Fc.split hf
    have hl := h3.len
    obtain ⟨ak, ck, ys, rfl, h5, h6⟩ := h4
    have hc' : ∀ j u, (.int .i64 k :: .int .i64 n :: stv nm :: .slice ak ks.len ck :: .int .i64 a :: ys : List Value)[j]? = some u → w.cell? ⟨b, off + x.len * 5 + j, none⟩ = some u := fun j u hu => by
      have := hc (x.len * 5 + j) u (by rw [List.getElem?_append_right (by omega), hl, Nat.add_sub_cancel_left]; exact hu)
      rw [Nat.add_assoc]
      exact this
    exact ⟨b, off, ak, ck, rfl, hlt, hp, hc' 0 _ rfl, hc' 1 _ rfl, hc' 2 _ rfl, hc' 3 _ rfl, hc' 4 _ rfl, h5⟩
abbrev SlA (w : World) (f : Fs) (ao : Option Addr) : Prop := Sl w (fun _ => True) f ao
theorem SlA.below {w w' : World} {f : Fs} {ao : Option Addr} (h : SlA w f ao) (b : Below w.heap.size w w') : SlA w' f ao := h.mono (fun i _ hl => b.block i hl) b.size (fun _ h _ => h)
end Go.Proofs.YtojleoionpnjpaaGreatDoor
namespace Go.Proofs.YtojleoionpnjpaaGreatDoor
set_option linter.unusedVariables false

theorem consR_inl {x : Tk} {X : Res} {e : Nat × Nat} (h : consR x X = .inl e) : X = .inl e := by
  cases X with
  | inl e' => exact h
  | inr l => cases h
theorem consR_inr {x : Tk} {X : Res} {ts : List Tk} (h : consR x X = .inr ts) : ∃ us, X = .inr us ∧ ts = x :: us := by
  cases X with
  | inl e => cases h
  | inr l =>
    refine ⟨l, rfl, ?_⟩
    injection h with h
    exact h.symm
/-- How a shut piece ends in an error. -/
theorem shut_inl {k : Nat} {t : List UInt8} {a e q : Nat} {X : Res} (h : shutP k t a X = .inl (e, q)) : (k ≠ 0 ∧ ptok k t a = .inl e ∧ q = a) ∨ (X = .inl (e, q) ∧ (k = 0 ∨ ∃ x, ptok k t a = .inr x)) := by
  unfold shutP at h
  by_cases hk : k = 0
  · rw [if_pos hk] at h
    exact .inr ⟨h, .inl hk⟩
  · rw [if_neg hk] at h
    cases hp : ptok k t a with
    | inl e' =>
      rw [hp] at h
      simp only at h
      injection h with h
      injection h with h1 h2
      exact .inl ⟨hk, by rw [h1], h2.symm⟩
    | inr x =>
      rw [hp] at h
      exact .inr ⟨consR_inl h, .inr ⟨x, rfl⟩⟩
theorem shut_inr {k : Nat} {t : List UInt8} {a : Nat} {X : Res} {ts : List Tk} (h : shutP k t a X = .inr ts) : (k = 0 ∧ X = .inr ts) ∨ (k ≠ 0 ∧ ∃ x us, ptok k t a = .inr x ∧ X = .inr us ∧ ts = x :: us) := by
  unfold shutP at h
  by_cases hk : k = 0
  · rw [if_pos hk] at h
    exact .inl ⟨hk, h⟩
  · rw [if_neg hk] at h
    cases hp : ptok k t a with
    | inl e' => rw [hp] at h; cases h
    | inr x =>
      rw [hp] at h
      obtain ⟨us, h1, h2⟩ := consR_inr h
      exact .inr ⟨hk, x, us, rfl, h1, h2⟩
theorem err_place (k : Nat) (t : List UInt8) (a p : Nat) (l : List UInt8) (e q : Nat) (h : lexL k t a p l = .inl (e, q)) : (k ≠ 0 ∧ q = a) ∨ (p ≤ q ∧ q < p + l.length) := by
  induction l generalizing k t a p with
  | nil =>
    rcases shut_inl h with ⟨h1, _, h2⟩ | ⟨h1, _⟩
    · exact .inl ⟨h1, h2⟩
    · cases h1
  | cons c r ih =>
    simp only [List.length_cons]
    cases ht : tks k t c.toNat
    · rw [lexL_no ht] at h
      rcases shut_inl h with ⟨h1, _, h2⟩ | ⟨h1, _⟩
      · exact .inl ⟨h1, h2⟩
      · rcases ih _ _ _ _ h1 with ⟨_, h2⟩ | ⟨h2, h3⟩
        · exact .inr ⟨by omega, by omega⟩
        · exact .inr ⟨by omega, by omega⟩
    · rw [lexL_yes ht] at h
      rcases ih _ _ _ _ h with h2 | ⟨h2, h3⟩
      · exact .inl h2
      · exact .inr ⟨by omega, by omega⟩
theorem err_kind (k : Nat) (t : List UInt8) (a p : Nat) (l : List UInt8) (e q : Nat) (h : lexL k t a p l = .inl (e, q)) : e = 110 ∨ e = 111 ∨ e = 112 := by
  induction l generalizing k t a p with
  | nil =>
    rcases shut_inl h with ⟨h1, h2, _⟩ | ⟨h1, _⟩
    · exact ptok_err h2
    · cases h1
  | cons c r ih =>
    cases ht : tks k t c.toNat
    · rw [lexL_no ht] at h
      rcases shut_inl h with ⟨h1, h2, _⟩ | ⟨h1, _⟩
      · exact ptok_err h2
      · exact ih _ _ _ _ h1
    · rw [lexL_yes ht] at h
      exact ih _ _ _ _ h
/-- Scan's own. -/
theorem scan_short {l : List UInt8} (h : l.length ≤ 2000) : scanA l = lexA l := by
  unfold scanA
  rw [if_neg (by omega)]
theorem scan_err {l : List UInt8} {e q : Nat} (h : scanA l = .inl (e, q)) (he : e ≠ 113) : l.length ≤ 2000 ∧ lexA l = .inl (e, q) ∧ q < l.length ∧ (e = 110 ∨ e = 111 ∨ e = 112) := by
  unfold scanA at h
  split at h
  · injection h with h
    injection h with h1 h2
    omega
  · refine ⟨by omega, h, ?_, err_kind _ _ _ _ _ _ _ h⟩
    rcases err_place _ _ _ _ _ _ _ h with ⟨h1, _⟩ | ⟨_, h1⟩
    · exact absurd rfl h1
    · omega
end Go.Proofs.YtojleoionpnjpaaGreatDoor
namespace Go.Proofs.YtojleoionpnjpaaGreatDoor
set_option linter.unusedVariables false

/-- Places by d more. -/
def mvT (d : Nat) (x : Tk) : Tk := ⟨x.k, x.n, x.t, x.a + d⟩
/-- A token's place is the piece's own. -/
theorem ptok_inr {k : Nat} {t : List UInt8} {a : Nat} {x : Tk} (h : ptok k t a = .inr x) : x.a = a ∧ ∀ a', ptok k t a' = .inr ⟨x.k, x.n, x.t, a'⟩ := by
  unfold ptok at h ⊢
  split at h
  · unfold wrdT at h ⊢
    split at h
    · rename_i h1
      injection h with h
      subst h
      exact ⟨rfl, fun a' => by rw [if_pos h1]⟩
    · rename_i h1
      split at h
      · rename_i h2
        injection h with h
        subst h
        exact ⟨rfl, fun a' => by rw [if_neg h1, if_pos h2]⟩
      · cases h
  · unfold numT at h ⊢
    cases ha : Lib.atoiAll t with
    | ok v =>
      rw [ha] at h
      simp only at h ⊢
      split at h
      · cases h
      · rename_i h1
        injection h with h
        subst h
        exact ⟨rfl, fun a' => by rw [if_neg h1]⟩
    | _ => rw [ha] at h; cases h
  · unfold sgnT at h ⊢
    split at h
    · cases h
    · rename_i h1
      injection h with h
      subst h
      exact ⟨rfl, fun a' => by rw [if_neg h1]⟩
  · cases h
end Go.Proofs.YtojleoionpnjpaaGreatDoor
namespace Go.Proofs.YtojleoionpnjpaaGreatDoor
set_option linter.unusedVariables false

theorem tok_places (k : Nat) (t : List UInt8) (a p : Nat) (l : List UInt8) (ts : List Tk) (h : lexL k t a p l = .inr ts) (ha : a ≤ p) : ∀ x, x ∈ ts → x.a ≤ p + l.length := by
  induction l generalizing k t a p ts with
  | nil =>
    intro x hx
    rcases shut_inr h with ⟨rfl, h1⟩ | ⟨hk, y, us, hp, h1, h2⟩
    · injection h1 with h1
      subst h1
      simp at hx
      subst hx
      exact Nat.le_refl _
    · injection h1 with h1
      subst h1 h2
      simp at hx
      rcases hx with rfl | rfl
      · have := (ptok_inr hp).1
        simp
        omega
      · exact Nat.le_refl _
  | cons c r ih =>
    have e1 : p + (c :: r).length = p + 1 + r.length := by simp; omega
    rw [e1]
    cases ht : tks k t c.toNat
    · rw [lexL_no ht] at h
      rcases shut_inr h with ⟨rfl, h1⟩ | ⟨hk, y, us, hp, h1, h2⟩
      · exact ih _ _ _ _ _ h1 (by omega)
      · subst h2
        intro x hx
        rcases List.mem_cons.1 hx with rfl | hx
        · have := (ptok_inr hp).1
          omega
        · exact ih _ _ _ _ _ h1 (by omega) x hx
    · rw [lexL_yes ht] at h
      exact ih _ _ _ _ _ h (by omega)
theorem tok_count (k : Nat) (t : List UInt8) (a p : Nat) (l : List UInt8) (ts : List Tk) (h : lexL k t a p l = .inr ts) : ts.length ≤ l.length + 2 ∧ 0 < ts.length ∧ (k = 0 → ts.length ≤ l.length + 1) := by
  induction l generalizing k t a p ts with
  | nil =>
    rcases shut_inr h with ⟨rfl, h1⟩ | ⟨hk, y, us, hp, h1, h2⟩
    · injection h1 with h1
      subst h1
      simp
    · injection h1 with h1
      subst h1 h2
      simp [hk]
  | cons c r ih =>
    simp only [List.length_cons]
    cases ht : tks k t c.toNat
    · rw [lexL_no ht] at h
      rcases shut_inr h with ⟨rfl, h1⟩ | ⟨hk, y, us, hp, h1, h2⟩
      · have := ih _ _ _ _ _ h1
        exact ⟨by omega, by omega, fun _ => by omega⟩
      · subst h2
        have := ih _ _ _ _ _ h1
        simp only [List.length_cons]
        exact ⟨by omega, by omega, fun h => absurd h hk⟩
    · rw [lexL_yes ht] at h
      have := ih _ _ _ _ _ h
      exact ⟨by omega, by omega, fun h => by have := this.2.2 h; omega⟩
theorem scan_ok {l : List UInt8} {ts : List Tk} (h : scanA l = .inr ts) : l.length ≤ 2000 ∧ lexA l = .inr ts ∧ ts.length ≤ 2001 ∧ ts.length ≤ l.length + 1 ∧ 0 < ts.length ∧ (∀ x, x ∈ ts → x.a ≤ l.length) := by
  unfold scanA at h
  split at h
  · cases h
  · have h1 := tok_count _ _ _ _ _ _ h
    have h2 := tok_places _ _ _ _ _ _ h (Nat.le_refl _)
    have h3 := h1.2.2 rfl
    exact ⟨by omega, h, by omega, h3, h1.2.1, fun x hx => by have := h2 x hx; omega⟩
theorem scan_err_pos {l : List UInt8} {e q : Nat} (h : scanA l = .inl (e, q)) : e ≠ 0 := by
  by_cases he : e = 113
  · omega
  · have := (scan_err h he).2.2.2
    omega
end Go.Proofs.YtojleoionpnjpaaGreatDoor
