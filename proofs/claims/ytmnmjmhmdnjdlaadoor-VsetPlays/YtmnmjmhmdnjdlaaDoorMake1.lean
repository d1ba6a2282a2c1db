/- VsetPlays: a step that makes a set of a list. -/
import Derived.Test.YtmnmjmhmdnjdlaaDoorMakeB
import Derived.Test.YtmnmjmhmdnjdlaaDoorApp2
import Derived.Test.YtmnmjmhmdnjdlaaDoorSame9
namespace Go.Proofs.YtmnmjmhmdnjdlaaDoor
open Go.ChangeShapes Go.WideShapes Go.ChangeAt Go.RowKit Go.Maps
set_option linter.unusedVariables false
set_option linter.unusedSimpArgs false

/-- What a step that makes a set gives. -/
def MkOut1 (w : World) (o : Nat → Nat) (p : Nat) (va vw : Value) (e : Ending) (w' : World) : Prop := ∃ S' o', e = .returned (.bool true) ∧ Bk w' p S' S' va vw ∧ (∀ i, i < 4 → S' i < top64) ∧ Step (fun k => k = 1 ∨ k = 95 ∨ k = 96) w o w' o'
theorem MkOut.one {w : World} {o : Nat → Nat} {p : Nat} {va vw : Value} {e : Ending} {w' : World} (h : MkOut w o p va vw e w') : MkOut1 w o p va vw e w' := by
  obtain ⟨S', h1, h2, h3, h4⟩ := h
  exact ⟨S', o, h1, h2, h3, h4.mono fun k hk => .inl hk⟩
/-- Numbers as values. -/
def nw (f : Nat → Int) (n : Nat) : List Value := (List.range n).map fun j => .int .i64 (f j)
theorem nw_len (f : Nat → Int) (n : Nat) : (nw f n).length = n := by simp [nw]
theorem nw_get (f : Nat → Int) (n j : Nat) (h : j < n) : (nw f n)[j]? = some (.int .i64 (f j)) := by simp [nw, h]
theorem nw_one (f : Nat → Int) (n : Nat) : ∀ u ∈ nw f n, u.oneCell' = true := fun u hu => by
  simp only [nw, List.mem_map] at hu
  obtain ⟨j, _, rfl⟩ := hu
  rfl
theorem Ints.news {w : World} {ao : Option Addr} {n : Nat} {f : Nat → Int} (h : Ints w ao n f) : 0 < n → ∃ ad, ao = some ad ∧ ∀ j u, (nw f n)[j]? = some u → w.cell? (ad.add j) = some u := fun hn => by
  obtain ⟨b, off, rfl, _⟩ := h 0 hn
  refine ⟨_, rfl, fun j u hu => ?_⟩
  have hj : j < n := by have := (List.getElem?_eq_some_iff.1 hu).1; rwa [nw_len] at this
  rw [nw_get f n j hj] at hu
  obtain ⟨b', off', e, _, hc, _⟩ := h j hj
  simp only [Option.some.injEq, Addr.mk.injEq, and_true] at e
  obtain ⟨rfl, rfl⟩ := e
  rw [← hu, Addr.add_mid]
  exact hc
theorem Row.nw {w : World} {o : Nat → Nat} {i g n c : Nat} {f : Nat → Int} {v : Value} (h : Row w o i 3 1 (.slice (some ⟨g, 0, none⟩) (n + 1) c) (n + 1) (nw f n ++ [v])) (hf : ∀ j, j < n → -9223372036854775808 ≤ f j ∧ f j ≤ 9223372036854775807) : Ints w (some ⟨g, 0, none⟩) n f ∧ w.cell? ⟨g, n, none⟩ = some v ∧ n + 1 ≤ c ∧ c ≤ maxLen := by
  obtain ⟨g', c', hv, _, hc, hm, hlt, hcell, _⟩ := h.pos (by omega)
  simp only [Value.slice.injEq, Option.some.injEq, Addr.mk.injEq, and_true, true_and] at hv
  obtain ⟨rfl, rfl⟩ := hv
  refine ⟨fun j hj => ⟨g, 0, rfl, hlt, ?_, hf j hj⟩, ?_, hc, hm⟩
  · rw [Nat.zero_add, hcell j (by omega), List.getElem?_append_left (by rw [nw_len]; exact hj), nw_get f n j hj]
  · rw [hcell n (by omega), List.getElem?_append_right (by rw [nw_len]; omega), nw_len]
    simp
theorem OfOut.lt {f : Nat → Int} {n s : Nat} {e : Int} (h : OfOut f n s e) : s < top64 := by
  rcases h with ⟨h1, h2, h3⟩ | ⟨h1, h2, _⟩
  · rw [h3]; exact ofs_lt f n h2
  · rw [h2]; decide
theorem OfOut.lays {f : Nat → Int} {n s : Nat} {e : Int} (h : OfOut f n s e) (o : Nat → Nat) (p i : Nat) (S : Nat → Nat) (va vw : Value) (hop : o p = 1) (hi : i < 4) (hS : ∀ i, i < 4 → S i < top64) : ∃ S' : Nat → Nat, (∀ i, i < 4 → S' i < top64) ∧ ∀ wx, Bk wx p S S va vw → Calls Tryd.prog 18 #[.pointer (some ⟨p, 0, none⟩), .int .i64 (i : Nat), sv s, .int .i64 e, av s, .int .i64 e] wx fun e w' => LayOut wx o p S' S' va vw e w' := by
  have hlt := h.lt
  rcases h with ⟨rfl, h2, h3⟩ | ⟨rfl, rfl, _⟩
  · exact ⟨_, upd_lt hS hlt, fun wx hk => lays_ok wx o p i s s S S va vw hk hop hi⟩
  · exact ⟨S, hS, fun wx hk => lays_no wx o p i 0 S S va vw hk⟩

set_option maxRecDepth 100000 in
set_option maxHeartbeats 8000000 in
theorem makes_1 (w : World) (o : Nat → Nat) (p : Nat) (S : Nat → Nat) (va vw : Value) (h : Bk w p S S va vw) (hop : o p = 1) (hS : ∀ i, i < 4 → S i < top64) (b c n : Int) (hb1 : -9223372036854775808 ≤ b) (hb2 : b ≤ 9223372036854775807) (hc1 : -9223372036854775808 ≤ c) (hc2 : c ≤ 9223372036854775807) (ao : Option Addr) (len cap : Nat) (f : Nat → Int) (hI : Ints w ao len f) (hlab : ∀ ad, ao = some ad → 0 < len → o ad.block = 0) (hlen : len * 8 ≤ 140737488351232) :
    Calls Tryd.prog 5 #[.pointer (some ⟨p, 0, none⟩), .agg #[.int .i64 1, .int .i64 b, .int .i64 c, .int .i64 n, .slice ao len cap]] w fun e w' => MkOut1 w o p va vw e w' := by
  have sB := newStep (fun _ => False) w o 95 (.cells #[.int .i64 1, .int .i64 b, .int .i64 c, .int .i64 n, .slice ao len cap] 39)
  have K1 := h.step sB id
  have hop1 : newLab w o 95 p = 1 := (h.lab sB).trans hop
  have hIb := fun (wx : World) (hb : Below w.heap.size w wx) => hI.below hb (Nat.le_refl _)
  have hI1 := hIb _ (bal (b0 w) (.cells #[.int .i64 1, .int .i64 b, .int .i64 c, .int .i64 n, .slice ao len cap] 39))
  have hfb : ∀ j, j < len → -9223372036854775808 ≤ f j ∧ f j ≤ 9223372036854775807 := fun j hj => by
    obtain ⟨_, _, _, _, _, q⟩ := hI j hj
    exact q
  have hlb1 : ∀ j, j < len → ∀ bb off, ao = some ⟨bb, off, none⟩ → newLab w o 95 bb = 0 := fun j hj bb off e => by
    obtain ⟨b', off', e', h2, _⟩ := hI j hj
    rw [e] at e'
    simp only [Option.some.injEq, Addr.mk.injEq, and_true] at e'
    obtain ⟨rfl, rfl⟩ := e'
    rw [newLab_old h2]
    exact hlab _ e (by omega)
  have S1 : Step (fun k => k = 1 ∨ k = 95 ∨ k = 96) w o _ _ := sB.mono (fun _ h => h.elim)
  have e3 : (w.alloc (.cells #[.int .i64 1, .int .i64 b, .int .i64 c, .int .i64 n, .slice ao len cap] 39)).heap[w.heap.size]? = some (.cells #[.int .i64 1, .int .i64 b, .int .i64 c, .int .i64 n, .slice ao len cap] 39 (0, 0)) := heap_alloc_new w _
  have lb3 : newLab w o 95 w.heap.size = 95 := newLab_new (Nat.le_refl _)
  have lbn : ∀ k, w.heap.size ≤ k → newLab w o 95 k = 95 := fun k hk => newLab_new hk
  have hp1 := fun wx => pick_c b 4 wx hb1 hb2 (by omega) (by omega)
  have hp2 := fun wx => pick_c c 4 wx hc1 hc2 (by omega) (by omega)
  have hi := pk_lt b 4 (by omega)
  generalize pk b 4 = i at hp1 hi
  have hiI : (i : Int) < 4 := by omega
  obtain ⟨ii, hii, hzi0, hzi1, hzi2⟩ := info_parts infoInt
  have b1 : 0 + len ≤ maxLen := by unfold maxLen; omega
  have b2 : (0 + len) * 8 ≤ 140737488355328 := by omega
  have b3' : 0 + len + 1 ≤ maxLen := by unfold maxLen; omega
  have b4 : (0 + len + 1) * 8 ≤ 140737488355328 := by omega
  have hlm : len ≤ maxLen := by unfold maxLen; omega
  clear h sB hI hIb
  go_enter Tryd.func5, Tryd.ntmps5
  go_upto_region 1 with fail
  obtain ⟨b3, hb3⟩ : ∃ b3, b3 = w.heap.size := ⟨_, rfl⟩
  have hszw : (w.alloc (.cells #[.int .i64 1, .int .i64 b, .int .i64 c, .int .i64 n, .slice ao len cap] 39)).heap.size = b3 + 1 := by rw [hb3]; simp
  rw [← hb3] at e3 lb3 lbn ⊢
  generalize newLab w o 95 = o1 at K1 S1 hop1 lb3 lbn hlb1
  generalize w.alloc (.cells #[.int .i64 1, .int .i64 b, .int .i64 c, .int .i64 n, .slice ao len cap] 39) = w1 at K1 S1 e3 hI1 hszw ⊢
  clear hb3
  have c0 : w1.cell? ⟨b3, 0, none⟩ = some (.int .i64 1) := by simp [cell_of_row w1 b3 _ _ _ (0, 0) e3]
  have c1 : w1.cell? ⟨b3, 1, none⟩ = some (.int .i64 b) := by simp [cell_of_row w1 b3 _ _ _ (0, 0) e3]
  have c2 : w1.cell? ⟨b3, 2, none⟩ = some (.int .i64 c) := by simp [cell_of_row w1 b3 _ _ _ (0, 0) e3]
  have c4 : w1.cell? ⟨b3, 4, none⟩ = some (.slice ao len cap) := by simp [cell_of_row w1 b3 _ _ _ (0, 0) e3]
  have hltb : b3 < w1.heap.size := lt_of_block e3
  clear e3
  go_wp2_with fail
  refine (hp1 _).mono ?_
  rintro e w2 ⟨rfl, rfl⟩
  go_wp2_with fail
  refine (hp2 _).mono ?_
  rintro e w3 ⟨rfl, rfl⟩
  clear hp1 hp2
  go_upto_region 5 with fail
  clear c0 c1 c2
  have x4 : w3.drew.cell? ⟨b3, 4, none⟩ = some (.slice ao len cap) := c4
  have hI3 : Ints w3.drew ao len f := hI1.below (bdrew w3) (Nat.le_refl _)
  have HX : Hid (∀ wx ox, Step (fun k => k = 96) w3.drew o1 wx ox → wx.cell? ⟨b3, 4, none⟩ = some (.slice ao len cap)) := fun wx ox s => (s.cellAt (p := ⟨b3, 4, none⟩) hltb (by show ¬ o1 b3 = 96; rw [lb3]; omega)).trans c4
  have HY : Hid (∀ wx ox, Step (fun k => k = 96) (w3.drew.alloc (.cells #[.int .i64 77] 3)) o1 wx ox → ∀ j u, [Value.int .i64 77][j]? = some u → wx.cell? ((⟨w3.heap.size, 0, none⟩ : Addr).add j) = some u) := fun wx ox s j u hj => by
    have hb0 : w3.heap.size < (w3.drew.alloc (.cells #[.int .i64 77] 3)).heap.size := by simp
    have := new_one_at (w := w3.drew) (s := w3.heap.size) rfl (.int .i64 77) 3 j u hj
    rw [← this, Addr.add_mid]
    exact s.cellAt (p := ⟨w3.heap.size, 0 + j, none⟩) hb0 (by show ¬ o1 w3.heap.size = 96; rw [lbn _ (by omega)]; omega)
  have HF : Hid (∀ wx ox g6 c6, Row wx ox 96 3 1 (.slice (some ⟨g6, 0, none⟩) (0 + len + 1) c6) (0 + len + 1) (([] ++ nw f len) ++ [.int .i64 77]) → Step (fun k => k = 96) w3.drew o1 wx ox → wx.cell? ⟨b3, 4, none⟩ = some (.slice ao len cap) ∧ Row wx ox 96 3 1 (.slice (some ⟨g6, 0, none⟩) (len + 1) c6) (len + 1) (nw f len ++ [.int .i64 77]) ∧ Step (fun k => k = 96) w3 o1 wx ox) := fun wx ox g6 c6 r s => ⟨HX.out _ _ s, by simpa using r, (Step.refl _ w3 o1).drew.trans s⟩
  go_cut [7] (fun v7 wx => ∃ g6 c6 o6, v7 = .slice (some ⟨g6, 0, none⟩) len c6 ∧ Row wx o6 96 3 1 (.slice (some ⟨g6, 0, none⟩) (len + 1) c6) (len + 1) (nw f len ++ [.int .i64 77]) ∧ Step (fun k => k = 96) w3 o1 wx o6)
  case first =>
    clear K1 S1 hI1 c4
    refine wp_region_noPanic ?_
    refine wp_region_held_drew (S := fun wx => wx.cell? ⟨b3, 4, none⟩ = some (.slice ao len cap)) (by kernel_rfl) (x4) (fun hHeld => ?_)
    refine wpAnyH_take (i := 0) (v := ?v1) rfl (by kernel_rfl) (by kernel_rfl) (by kernel_rfl) (fun _ _ _ h => h) (Or.inl ⟨by rfl, ?hy1⟩) (by assumption) ?rest1
    case hy1 => (intro w hSw; (try dsimp only at hSw); go_simp; all_goals (with_reducible rfl))
    simp only [Act.put, List.getElem_toArray, List.getElem_cons_zero, List.getElem_cons_succ, List.setIfInBounds_toArray, List.set_cons_zero, List.set_cons_succ]
    refine wpAnyH_take (i := 1) (v := ?v2) rfl (by kernel_rfl) (by kernel_rfl) (by kernel_rfl) (fun _ _ _ h => h) (Or.inl ⟨by rfl, ?hy2⟩) (by assumption) ?rest2
    case hy2 => (intro w hSw; (try dsimp only at hSw); have c1 := hSw; go_simp; all_goals (with_reducible rfl))
    simp only [Act.put, List.getElem_toArray, List.getElem_cons_zero, List.getElem_cons_succ, List.setIfInBounds_toArray, List.set_cons_zero, List.set_cons_succ]
    refine wpAnyH_take (i := 5) (v := ?v3) rfl (by kernel_rfl) (by kernel_rfl) (by kernel_rfl) (fun _ _ _ h => h) (Or.inl ⟨by rfl, ?hy3⟩) (by assumption) ?rest3
    case hy3 => (intro w hSw; (try dsimp only at hSw); go_simp; all_goals (with_reducible rfl))
    simp only [Act.put, List.getElem_toArray, List.getElem_cons_zero, List.getElem_cons_succ, List.setIfInBounds_toArray, List.set_cons_zero, List.set_cons_succ]
    refine wpAnyH_take (i := 6) (v := ?v4) rfl (by kernel_rfl) (by kernel_rfl) (by kernel_rfl) (fun _ _ _ h => h) (Or.inl ⟨by rfl, ?hy4⟩) (by assumption) ?rest4
    case hy4 => (intro w hSw; (try dsimp only at hSw); have c1 := hSw; go_simp; all_goals (with_reducible rfl))
    simp only [Act.put, List.getElem_toArray, List.getElem_cons_zero, List.getElem_cons_succ, List.setIfInBounds_toArray, List.set_cons_zero, List.set_cons_succ]
    refine wpAnyH_take (i := 7) (v := ?v5) rfl (by kernel_rfl) (by kernel_rfl) (by kernel_rfl) (fun _ _ _ h => h) (Or.inl ⟨by rfl, ?hy5⟩) (by assumption) ?rest5
    case hy5 => (intro w hSw; (try dsimp only at hSw); go_simp; all_goals (with_reducible rfl))
    simp only [Act.put, List.getElem_toArray, List.getElem_cons_zero, List.getElem_cons_succ, List.setIfInBounds_toArray, List.set_cons_zero, List.set_cons_succ]
    refine wpAnyH_ready (rs := [2, 3]) (by kernel_rfl) (by simp) ?_
    refine AllReadyH.cons rfl (fun K hK => ?_) (AllReadyH.cons rfl (fun K hK => ?_) AllReadyH.nil)
    · refine step_append_any rfl (.const (.slice none 0 0)) (.tmp 33) 37 rfl 3 ii (.int .i64 0) 1 8 Tryd.underlying37 hii hzi0 hzi1 hzi2 rfl (by decide) o1 96 _ 0 [] (by simp [Act.eval]) (Row.nil _ _ _ _ _) ao len cap (nw f len) (by simp [Act.eval]) (by rw [nw_len]; omega) (hI3).news (nw_one f len) b1 b2 ?_
      intro g4 c4 w4 o4 r4 s4
      have y4 := HX.out _ _ s4
      refine hK.out _ _ y4 (fun hHeld => ?_)
      clear hK K
      try simp only [Act.put, List.getElem_toArray, List.getElem_cons_zero, List.getElem_cons_succ, List.setIfInBounds_toArray, List.set_cons_zero, List.set_cons_succ]
      refine wpAnyH_ready (rs := [3]) (by kernel_rfl) (by simp) ?_
      refine AllReadyH.cons rfl (fun K hK => ?_) AllReadyH.nil
      go_simp
      have u5 := s4.alloc (.cells #[.int .i64 77] 3)
      have y5 := keep_below (bal (b0 w4) (.cells #[.int .i64 77] 3)) y4
      refine hK.out _ _ y5 (fun hHeld => ?_)
      clear hK K
      try simp only [Act.put, List.getElem_toArray, List.getElem_cons_zero, List.getElem_cons_succ, List.setIfInBounds_toArray, List.set_cons_zero, List.set_cons_succ]
      refine wpAnyH_ready (rs := [4]) (by kernel_rfl) (by simp) ?_
      refine AllReadyH.cons rfl (fun K hK => ?_) AllReadyH.nil
      refine step_append_lab rfl (.tmp 34) (.tmp 35) 37 rfl 3 ii (.int .i64 0) 1 8 Tryd.underlying37 hii hzi0 hzi1 hzi2 rfl (by decide) o4 96 _ (0 + len) ([] ++ nw f len) (by simp [Act.eval]) (r4.step (allocStep (fun _ => False) w4 o4 _) (by simp)) ⟨w4.heap.size, 0, none⟩ 1 1 [.int .i64 77] (by simp [Act.eval]) rfl (new_one_at (by simp) _ _) (by intro u hu; simp at hu; subst hu; rfl) (by decide) b3' b4 ?_
      intro g6 c6 w6 o6 r6 s6
      have F6 := HF.out _ _ _ _ r6 (u5.trans s6)
      obtain ⟨y6, z6⟩ := F6
      refine hK.out _ _ y6 (fun hHeld => ?_)
      clear hK K
      try simp only [Act.put, List.getElem_toArray, List.getElem_cons_zero, List.getElem_cons_succ, List.setIfInBounds_toArray, List.set_cons_zero, List.set_cons_succ]
      have hc6 : len ≤ c6 := by have := r6.cap; omega
      have hcI : (len : Int) ≤ (c6 : Int) := by omega
      refine wpAnyH_take (i := 8) (v := ?v6) rfl (by kernel_rfl) (by kernel_rfl) (by kernel_rfl) (fun _ _ _ h => h) (Or.inl ⟨by rfl, ?hy6⟩) (by assumption) ?rest6
      case hy6 => (intro w hSw; (try dsimp only at hSw); go_simp; all_goals (with_reducible rfl))
      simp only [Act.put, List.getElem_toArray, List.getElem_cons_zero, List.getElem_cons_succ, List.setIfInBounds_toArray, List.set_cons_zero, List.set_cons_succ]
      refine wpAnyH_take (i := 9) (v := ?v7) rfl (by kernel_rfl) (by kernel_rfl) (by kernel_rfl) (fun _ _ _ h => h) (Or.inl ⟨by rfl, ?hy7⟩) (by assumption) ?rest7
      case hy7 => (intro w hSw; (try dsimp only at hSw); go_simp; all_goals (with_reducible rfl))
      simp only [Act.put, List.getElem_toArray, List.getElem_cons_zero, List.getElem_cons_succ, List.setIfInBounds_toArray, List.set_cons_zero, List.set_cons_succ]
      refine wpAnyH_done (by kernel_rfl) ?_ _
      refine NoPanic.normal ?_
      go_wp2
      go_meet
      exact ⟨g6, c6, o6, rfl, z6⟩
    · go_simp
      have y3 := keep_below (bal (b0 w3.drew) (.cells #[.int .i64 77] 3)) x4
      refine hK.out _ _ y3 (fun hHeld => ?_)
      clear hK K
      try simp only [Act.put, List.getElem_toArray, List.getElem_cons_zero, List.getElem_cons_succ, List.setIfInBounds_toArray, List.set_cons_zero, List.set_cons_succ]
      refine wpAnyH_ready (rs := [2]) (by kernel_rfl) (by simp) ?_
      refine AllReadyH.cons rfl (fun K hK => ?_) AllReadyH.nil
      refine step_append_any rfl (.const (.slice none 0 0)) (.tmp 33) 37 rfl 3 ii (.int .i64 0) 1 8 Tryd.underlying37 hii hzi0 hzi1 hzi2 rfl (by decide) o1 96 _ 0 [] (by simp [Act.eval]) (Row.nil _ _ _ _ _) ao len cap (nw f len) (by simp [Act.eval]) (by rw [nw_len]; omega) (hI3.below (bal (b0 w3.drew) (.cells #[.int .i64 77] 3)) (Nat.le_refl _)).news (nw_one f len) b1 b2 ?_
      intro g4 c4 w4 o4 r4 s4
      have u5 := (allocStep (fun x => x = 96) w3.drew o1 (.cells #[.int .i64 77] 3)).trans s4
      have y4 := HX.out _ _ u5
      have n4 := HY.out _ _ s4
      refine hK.out _ _ y4 (fun hHeld => ?_)
      clear hK K
      try simp only [Act.put, List.getElem_toArray, List.getElem_cons_zero, List.getElem_cons_succ, List.setIfInBounds_toArray, List.set_cons_zero, List.set_cons_succ]
      refine wpAnyH_ready (rs := [4]) (by kernel_rfl) (by simp) ?_
      refine AllReadyH.cons rfl (fun K hK => ?_) AllReadyH.nil
      refine step_append_lab rfl (.tmp 34) (.tmp 35) 37 rfl 3 ii (.int .i64 0) 1 8 Tryd.underlying37 hii hzi0 hzi1 hzi2 rfl (by decide) o4 96 _ (0 + len) ([] ++ nw f len) (by simp [Act.eval]) r4 ⟨w3.heap.size, 0, none⟩ 1 1 [.int .i64 77] (by simp [Act.eval]) rfl n4 (by intro u hu; simp at hu; subst hu; rfl) (by decide) b3' b4 ?_
      intro g6 c6 w6 o6 r6 s6
      have F6 := HF.out _ _ _ _ r6 (u5.trans s6)
      obtain ⟨y6, z6⟩ := F6
      refine hK.out _ _ y6 (fun hHeld => ?_)
      clear hK K
      try simp only [Act.put, List.getElem_toArray, List.getElem_cons_zero, List.getElem_cons_succ, List.setIfInBounds_toArray, List.set_cons_zero, List.set_cons_succ]
      have hc6 : len ≤ c6 := by have := r6.cap; omega
      have hcI : (len : Int) ≤ (c6 : Int) := by omega
      refine wpAnyH_take (i := 8) (v := ?v8) rfl (by kernel_rfl) (by kernel_rfl) (by kernel_rfl) (fun _ _ _ h => h) (Or.inl ⟨by rfl, ?hy8⟩) (by assumption) ?rest8
      case hy8 => (intro w hSw; (try dsimp only at hSw); go_simp; all_goals (with_reducible rfl))
      simp only [Act.put, List.getElem_toArray, List.getElem_cons_zero, List.getElem_cons_succ, List.setIfInBounds_toArray, List.set_cons_zero, List.set_cons_succ]
      refine wpAnyH_take (i := 9) (v := ?v9) rfl (by kernel_rfl) (by kernel_rfl) (by kernel_rfl) (fun _ _ _ h => h) (Or.inl ⟨by rfl, ?hy9⟩) (by assumption) ?rest9
      case hy9 => (intro w hSw; (try dsimp only at hSw); go_simp; all_goals (with_reducible rfl))
      simp only [Act.put, List.getElem_toArray, List.getElem_cons_zero, List.getElem_cons_succ, List.setIfInBounds_toArray, List.set_cons_zero, List.set_cons_succ]
      refine wpAnyH_done (by kernel_rfl) ?_ _
      refine NoPanic.normal ?_
      go_wp2
      go_meet
      exact ⟨g6, c6, o6, rfl, z6⟩
  case rest =>
  obtain ⟨g6, c6, o6, rfl, r6, s6⟩ := hcut
  have K6 := K1.step s6 (by rw [hop1]; omega)
  have S6 := S1.trans (s6.mono fun k hk => (by omega : k = 1 ∨ k = 95 ∨ k = 96))
  have hop6 : o6 p = 1 := (K1.lab s6).trans hop1
  have x6 := HX.out _ _ ((⟨s6.os, s6.tape, s6.output, s6.size, s6.lab, s6.block⟩ : Step (fun k => k = 96) w3.drew o1 _ _))
  have hI6 : Ints wc ao len f := fun j hj => by
    obtain ⟨bb, off, h1, h2, h3, h4⟩ := hI1 j hj
    exact ⟨bb, off, h1, Nat.lt_of_lt_of_le h2 s6.size, (s6.cellAt (p := ⟨bb, off + j, none⟩) h2 (by show ¬ o1 bb = 96; rw [hlb1 j hj bb off h1]; omega)).trans h3, h4⟩
  obtain ⟨hL6, c77, hcc, hcm⟩ := r6.nw hfb
  have HB3 : Hid (o6 b3 = 95) := (s6.lab b3 hltb).trans lb3
  clear K1 S1 hI1 s6 HX HY HF x4 hI3 c4
  go_upto_region 6 with fail
  have hofA := of_c wc (some ⟨g6, 0, none⟩) len c6 f hL6 hlm
  generalize wc = w7 at K6 S6 r6 x6 hI6 hL6 c77 hofA ⊢
  go_cut [8, 9] (fun v8 v9 wx => ∃ b8 s er, v8 = .pointer (some ⟨b8, 0, none⟩) ∧ v9 = .int .i64 er ∧ OfOut f len s er ∧ wx.cell? ⟨b8, 0, none⟩ = some (.int .u64 (s : Nat)) ∧ Below w7.heap.size w7 wx)
  case first =>
    clear K6 S6 r6 x6 hI6 hL6 c77
    unfold sv at hofA
    go_wp2_with fail
    refine hofA.mono ?_
    rintro e w8 ⟨s, er, rfl, ho, b8⟩
    have q8 := bal b8 (.cells #[.int .u64 (s : Nat)] 27)
    have qc := box_cell w8 (s : Nat) 27
    go_wp2
    go_meet
    exact ⟨_, s, er, rfl, rfl, ho, qc, q8⟩
  case rest =>
  obtain ⟨b8, s, er, rfl, rfl, ho, x8, B8⟩ := hcut
  have K8 := K6.below B8
  have S8 := S6.trans (Step.ofBelow o6 B8)
  have R8 := r6.step (Step.ofBelow (I := fun _ => False) o6 B8) id
  have y8 := keep_below B8 x6
  have hI8 := hI6.below B8 (Nat.le_refl _)
  have hL8 := hL6.below B8 (Nat.le_refl _)
  have d77 := keep_below B8 c77
  clear K6 S6 r6 x6 hI6 hL6 c77 B8 hofA
  go_upto_region 7 with fail
  have hofB := refOf_c wc ao len cap f hI8 hlm
  generalize wc = w9 at K8 S8 R8 y8 hI8 hL8 d77 hofB x8 ⊢
  go_cut [10, 11] (fun v10 v11 wx => ∃ b10, v10 = .pointer (some ⟨b10, 0, none⟩) ∧ v11 = .int .i64 er ∧ wx.heap[b10]? = some (.cells (b64 s).toArray 31 (0, 0)) ∧ Below w9.heap.size w9 wx)
  case first =>
    clear K8 S8 R8 hI8 hL8 d77 x8
    unfold av at hofB
    go_wp2_with fail
    refine hofB.mono ?_
    rintro e w10 ⟨s2, er2, rfl, ho2, b10⟩
    obtain ⟨rfl, rfl⟩ := ho.uniq ho2
    have q1 := bal b10 (.cells (b64 0).toArray 31)
    have r7 := heap_alloc_new w10 (.cells (b64 0).toArray 31)
    have q2 := below_setCells b10.size (b64 s) 0 _ q1
    have r8 := setCells_row (cs := b64 s) r7 (by rw [b64_len, b64_len])
    clear y8 q1
    go_wp2_with (first | (refine wpList_alloc9 rfl 31 rfl (some 10) rfl w10.heap.size rfl (.agg (b64 0).toArray) (zero9 _) ?_) | (refine wpList_store_mid rfl 31 _ _ rfl w10.heap.size 0 (b64 s).toArray rfl rfl (there9 r7 s) (size9 _) (all_oneCell_toArray (b64_one _)) ?_))
    go_meet
    exact ⟨_, rfl, rfl, r8, q2⟩
  case rest =>
  obtain ⟨b10, rfl, rfl, r10, B10⟩ := hcut
  have K10 := K8.below B10
  have S10 := S8.trans (Step.ofBelow o6 B10)
  have R10 := R8.step (Step.ofBelow (I := fun _ => False) o6 B10) id
  have y10 := keep_below B10 y8
  have x10 := keep_below B10 x8
  have hI10 := hI8.below B10 (Nat.le_refl _)
  have hL10 := hL8.below B10 (Nat.le_refl _)
  clear K8 S8 R8 y8 hI8 hL8 d77 hofB x8 B10
  go_upto_region 8 with fail
  have hsa := same_c wc (some ⟨g6, 0, none⟩) ao len c6 cap f hL10 hI10 hlm
  go_wp2_with fail
  refine hsa.mono ?_
  rintro e w11 ⟨rfl, B11⟩
  have K11 := K10.below B11
  have S11 := S10.trans (Step.ofBelow o6 B11)
  have R11 := R10.step (Step.ofBelow (I := fun _ => False) o6 B11) id
  have y11 := keep_below B11 y10
  have x11 := keep_below B11 x10
  have q11 := keep_range B11 (range_blk r10)
  have hlt3 : b3 < w11.heap.size := World.block_lt_of_cell? w11 _ y11
  have lb11 : o6 b3 = 95 := HB3.out
  obtain ⟨S', hS', hlay⟩ := ho.lays o6 p i S va vw hop6 hi hS
  have hly := hlay w11 K11
  unfold av sv at hly
  clear hsa K10 S10 R10 y10 x10 hI10 hL10 r10 B11 hlay
  go_wp2_with (refine wpList_load_mid rfl 31 _ rfl b10 0 rfl (b64 s) _ q11 Tryd.underlying31 rfl (sizeSet9 _) ?_)
  refine hly.mono ?_
  rintro e w12 ⟨rfl, K12, s12⟩
  have R12 := R11.step s12 (by omega)
  obtain ⟨_, c77, _, _⟩ := R12.nw hfb
  have y12 := (s12.cellAt (p := ⟨b3, 4, none⟩) hlt3 (by show ¬ o6 b3 = 1; rw [lb11]; omega)).trans y11
  have HR : Hid (∀ m, MkOut1 w o p va vw (.returned (.bool true)) (w12.drewN m)) := fun m => ⟨S', o6, rfl, K12.blk rfl, hS', (S11.trans (s12.mono fun k hk => .inl hk)).drewN m⟩
  have hcI : (len : Int) + 1 ≤ (c6 : Int) := by omega
  have hcI2 : (len : Int) < (len : Int) + 1 := by omega
  unfold maxLen at hlm hcm
  have hw1 : IntKind.i64.wrap ((len : Int) + 1) = (len : Int) + 1 := by rw [IntKind.wrap_i64]; omega
  clear K12 s12 R12 R11 S11 K11 hly x11 y11 q11
  go_wp2_with fail
  go_quiet (fail)
  go_wp2
  go_ret
  exact HR.out _
end Go.Proofs.YtmnmjmhmdnjdlaaDoor
