/- Tours: new ones. -/
import Derived.Test.YtnpfagpgploolaaLink
import Derived.Test.YtnpfagpgploolaaLaw4
import Derived.Deep.LoopGhost
namespace Go.Proofs.Ytnpfagpgploolaa
open Go.ChangeShapes Go.WideShapes Go.ChangeAt Go.RowKit Go.Maps
set_option linter.unusedVariables false

/-- The vertices' nodes, the first k of which are made. -/
def stsTo (n k : Nat) : List Nat := (List.range n).map (fun j => if j < k then j + 1 else 0)
theorem stsTo_len (n k : Nat) : (stsTo n k).length = n := by simp [stsTo]
theorem stsTo_zero (n : Nat) : stsTo n 0 = List.replicate n 0 := by
  apply List.ext_getElem <;> simp [stsTo]
theorem stsTo_all (n : Nat) : stsTo n n = stsOf n := by
  apply List.ext_getElem
  · simp [stsTo, stsOf]
  · intro i h1 h2
    simp [stsTo, stsOf] at h1 ⊢
    omega
theorem stsTo_set (n k : Nat) (h : k < n) : (intsL (stsTo n k)).set k (.int .i64 ((k : Int) + 1)) = intsL (stsTo n (k + 1)) := by
  apply List.ext_getElem
  · simp [intsL, stsTo]
  · intro i h1 h2
    simp only [intsL, stsTo, List.getElem_map, List.getElem_range, List.getElem_set]
    by_cases e : k = i
    · subst e; simp
    · rw [if_neg e]
      by_cases e2 : i < k
      · rw [if_pos e2, if_pos (by omega)]
      · rw [if_neg e2, if_neg (by omega)]

theorem madeInts (n : Nat) : (madeCells (Value.int .i64 0).cells n).toList = intsL (stsTo n 0) := by
  apply List.ext_getElem
  · simp [madeCells, intsL, stsTo]
  · intro i h1 h2
    simp [madeCells, intsL, stsTo, Value.cells, Nat.mod_one]
/-- The plain state of New's loop. -/
def NewP (k : Nat) (it : Nat → It) (S : Nat → List Nat) (g : Nat → Nat × Nat) : Prop := ∀ j, 1 ≤ j → j ≤ k → it j = ⟨0, true, 0⟩ ∧ S j = [j] ∧ g j = (j - 1, j - 1)
/-- The state of New's loop. -/
def NewS (w : World) (o : Nat → Nat) (L p n k : Nat) (wr : World) : Prop := ∃ o' it S g, Tm wr o' L p n k [] it S g (fun _ _ => 0) 0 (stsTo n k) ∧ NewP k it S g ∧ Step (TL L) w o wr o'
theorem NewP.tp {n : Nat} {it : Nat → It} {S : Nat → List Nat} {g : Nat → Nat × Nat} (h : NewP n it S g) (h1 : 1 ≤ n) (h2 : n ≤ 64) : Tp n n [] S g (fun _ _ => 0) 0 := by
  have hl : ∀ k, Live n [] k ↔ 1 ≤ k ∧ k ≤ n := fun k => by simp [Live]
  refine ⟨h1, h2, fun v hv => ⟨(hl _).2 ⟨by omega, by omega⟩, (h (v + 1) (by omega) (by omega)).2.2⟩, fun k hk => ?_, fun k hk _ => ?_, fun u v _ _ h => absurd rfl h, fun k hk hne => ?_, fun k hk => ?_, by simp⟩
  · obtain ⟨a, b⟩ := (hl k).1 hk
    rw [(h k a b).2.2]; simp; omega
  · obtain ⟨a, b⟩ := (hl k).1 hk
    rw [(h k a b).2.2]; simp; omega
  · obtain ⟨a, b⟩ := (hl k).1 hk
    rw [(h k a b).2.2] at hne; exact absurd rfl hne
  · obtain ⟨a, b⟩ := (hl k).1 hk
    rw [(h k a b).2.2]
    have e : k - 1 + 1 = k := by omega
    simp [e]

set_option maxRecDepth 100000 in
set_option maxHeartbeats 4000000 in
theorem new_in (w : World) (o : Nat → Nat) (L n : Nat) (h1 : 1 ≤ n) (h2 : n ≤ 64) :
    Calls Try.prog 7 #[.int .i64 n] w fun e w' => ∃ p, e = .returned (.tuple #[.pointer (some ⟨p, 0, none⟩), .int .i64 0]) ∧ ∃ o' it S g, To w' o' L p n n [] it S g (fun _ _ => 0) 0 ∧ NewP n it S g ∧ Step (TL L) w o w' o' := by
  obtain ⟨ii, hii, hzi0, hzi1, hzi2⟩ := info_parts infoInt
  have hnew := newF w o L (n + 2 * (n - 1)) (fun _ => ⟨0, true, 0⟩) (fun j => [j]) (by omega)
  have e1 : (n : Int) + 2 * ((n : Int) - 1) = ((n + 2 * (n - 1) : Nat) : Int) := by omega
  have ea : IntKind.i64.wrap ((n : Int) - 1) = (n : Int) - 1 := by rw [IntKind.wrap_i64]; omega
  have hmm := @run_makeMap Try.prog
  rw [← e1] at hnew
  clear e1
  go_enter Try.func7, Try.ntmps7
  go_wp2_with fail
  refine hnew.mono ?_
  rintro e w1 ⟨pf, rfl, o1, F1, s1⟩
  clear hnew
  go_wp2_with (at_make; refine wpList_make_full _ rfl _ _ 41 rfl w1.heap.size 3 ii (.int .i64 0) 1 Try.underlying41 hii hzi0 hzi1 .i64 .i64 _ _ n rfl rfl rfl rfl ?b2 ?b3 (Nat.le_refl _) ?_)
  case b2 => rw [hzi2]; omega
  case b3 => unfold maxLen; omega
  intro w2 hown hgr
  have s2 : Step (fun _ => False) w1 o1 w2 (newLab w1 o1 (L + 1101)) := ⟨hgr.os, hgr.tape, hgr.output, hgr.size, fun k hk => newLab_old hk, fun k hk _ => hgr.block k hk (by simp)⟩
  have r2 : Row w2 (newLab w1 o1 (L + 1101)) (L + 1101) 3 1 (.slice (some ⟨w1.heap.size, 0, none⟩) n n) n (intsL (stsTo n 0)) := by
    refine ⟨?_, fun k hk => ?_⟩
    · have := ownsRow_base0 hown
      have e : (madeCells (Value.int .i64 0).cells n).toList = intsL (stsTo n 0) := madeInts n
      rw [← e]
      exact this
    · simp [Value.ownBlock] at hk; subst hk; exact newLab_new (Nat.le_refl _)
  obtain ⟨o2, ho2⟩ : ∃ o2, o2 = newLab w1 o1 (L + 1101) := ⟨_, rfl⟩
  rw [← ho2] at r2 s2
  have F2 := F1.step s2 (fun _ _ => id)
  have m3 := StM.made w2 o2 (L + 1102)
  have s3 := newStep (fun _ => False) w2 o2 (L + 1102) (.map #[] 0)
  obtain ⟨o3, ho3⟩ : ∃ o3, o3 = newLab w2 o2 (L + 1102) := ⟨_, rfl⟩
  rw [← ho3] at m3 s3
  have m4 := GoM.made (w2.alloc (.map #[] 0)) o3 (L + 1103) (Live 0 []) (fun j => (j - 1, j - 1)) (fun k h => by have := h.1; have := h.2.1; omega)
  have s4 := newStep (fun _ => False) (w2.alloc (.map #[] 0)) o3 (L + 1103) (.map #[] 0)
  obtain ⟨o4, ho4⟩ : ∃ o4, o4 = newLab (w2.alloc (.map #[] 0)) o3 (L + 1103) := ⟨_, rfl⟩
  rw [← ho4] at m4 s4
  have e4 : (w2.alloc (.map #[] 0)).heap.size = w2.heap.size + 1 := by simp
  have e5 : ((w2.alloc (.map #[] 0)).alloc (.map #[] 0)).heap.size = w2.heap.size + 1 + 1 := by simp
  rw [e4] at m4
  have s5 := newStep (fun _ => False) ((w2.alloc (.map #[] 0)).alloc (.map #[] 0)) o4 (L + 1100) (.cells #[.pointer (some ⟨pf, 0, none⟩), .slice (some ⟨w1.heap.size, 0, none⟩) n n, .map (some w2.heap.size), .map (some (w2.heap.size + 1))] 72)
  have B5 : Blk (((w2.alloc (.map #[] 0)).alloc (.map #[] 0)).alloc (.cells #[.pointer (some ⟨pf, 0, none⟩), .slice (some ⟨w1.heap.size, 0, none⟩) n n, .map (some w2.heap.size), .map (some (w2.heap.size + 1))] 72)) (newLab ((w2.alloc (.map #[] 0)).alloc (.map #[] 0)) o4 (L + 1100)) (L + 1100) (w2.heap.size + 1 + 1) (.cells #[.pointer (some ⟨pf, 0, none⟩), .slice (some ⟨w1.heap.size, 0, none⟩) n n, .map (some w2.heap.size), .map (some (w2.heap.size + 1))] 72 (0, 0)) := by
    rw [← e5]; exact ⟨heap_alloc_new _ _, newLab_new (Nat.le_refl _)⟩
  have START : NewS w o L (w2.heap.size + 1 + 1) n 0 (((w2.alloc (.map #[] 0)).alloc (.map #[] 0)).alloc (.cells #[.pointer (some ⟨pf, 0, none⟩), .slice (some ⟨w1.heap.size, 0, none⟩) n n, .map (some w2.heap.size), .map (some (w2.heap.size + 1))] 72)) := by
    refine ⟨_, (fun _ => ⟨0, true, 0⟩), (fun j => [j]), (fun j => (j - 1, j - 1)), ⟨pf, w1.heap.size, n, w2.heap.size, w2.heap.size + 1, B5, ((F2.step s3 (fun _ _ => id)).step s4 (fun _ _ => id)).step s5 (fun _ _ => id), ((r2.step s3 id).step s4 id).step s5 id, (m3.step s4 id).step s5 id, m4.step s5 id⟩, fun j h1 h2 => by omega, (((((s1.trans s2).trans s3).trans s4).trans s5).mono fun _ h => h.elim)⟩
  obtain ⟨p, hp⟩ : ∃ p, p = w2.heap.size + 1 + 1 := ⟨_, rfl⟩
  have NP : Hid (p = w2.heap.size + 1 + 1) := hp
  clear hown hgr r2 F1 F2 m3 m4 s1 s2 s3 s4 s5 B5 e4 e5 ho2 ho3 ho4
  go_wp2
  rw [← hp] at START ⊢
  clear hp
  go_loopg [34] n (fun gh i wr => ∃ k : Nat, i = .int .i64 (k : Nat) ∧ k ≤ n ∧ gh = n - k ∧ NewS w o L p n k wr)
  case atStart => exact ⟨0, by go_num, by omega, by omega, START⟩
  case round =>
    clear START
    obtain ⟨k, rfl, hk, rfl, o3, it, S, g, T, P, s⟩ := hrel
    by_cases hlt : k < n
    · have T0 := T
      obtain ⟨h, N', free', q1, q2, q3, q4, q5, q6, q7, q8, hmk⟩ := node_any n k [] it S k k true T.wf (by simp; omega) h2
      obtain ⟨rfl, rfl, rfl⟩ := q8 rfl
      have sd : Step (fun k => TL L k ∧ k ≠ L + 1105 ∧ k ≠ L + 1100 ∧ k ≠ L + 1101) wr o3 wr.drew o3 := (Step.refl _ _ _).drew
      have hwd := hmk wr.drew o3 L p g _ 0 _ (T0.quiet ((Step.refl _ _ _).drew))
      obtain ⟨pf', bs, cap, bm, bg, h1', h2', h3', h4', h5'⟩ := T
      have hcap : n ≤ cap ∧ cap ≤ 9223372036854775807 := by
        obtain ⟨g', cap', hv', _, hcap, hmx, _, _, _⟩ := h3'.pos (by omega)
        simp only [Value.slice.injEq, Option.some.injEq, Addr.mk.injEq, and_true, true_and] at hv'
        obtain ⟨rfl, rfl⟩ := hv'
        unfold maxLen at hmx
        exact ⟨hcap, hmx⟩
      obtain ⟨hcap, hmx⟩ := hcap
      have HC : Hid (∀ wx ox, Step (fun k => TL L k ∧ k ≠ L + 1105 ∧ k ≠ L + 1100 ∧ k ≠ L + 1101) wr o3 wx ox → wx.cell? ⟨p, 1, none⟩ = some (.slice (some ⟨bs, 0, none⟩) n cap) ∧ wx.cell? ⟨bs, k, none⟩ = some (.int .i64 0) ∧ wx.frozen? ⟨bs, k, none⟩ = false ∧ (wx.setCell ⟨bs, k, none⟩ (.int .i64 ((k : Int) + 1))).cell? ⟨p, 1, none⟩ = some (.slice (some ⟨bs, 0, none⟩) n cap)) := fun wx ox s => by
        refine ⟨(h1'.step s (fun h => h.2.2.1 rfl)).cells.2.1, ?_⟩
        obtain ⟨g', cap', hv', hlab, _, _, _, hcell', hfr'⟩ := (h3'.step s (fun h => h.2.2.2 rfl)).pos (by omega)
        simp only [Value.slice.injEq, Option.some.injEq, Addr.mk.injEq, and_true, true_and] at hv'
        obtain ⟨rfl, _⟩ := hv'
        refine ⟨?_, hfr' k, ((h1'.step s (fun h => h.2.2.1 rfl)).step ((Step.refl (fun i => i = L + 1101) _ _).setCell ⟨bs, k, none⟩ _ hlab) (by omega)).cells.2.1⟩
        rw [hcell' k (by omega)]
        simp [intsL, stsTo, hlt]
      have HE : Hid (∀ wx ox, Step (fun k => TL L k ∧ k ≠ L + 1105 ∧ k ≠ L + 1100 ∧ k ≠ L + 1101) wr o3 wx ox → Tm wx ox L p n (k + 1) [] (upd it (k + 1) ⟨0, true, 0⟩) (setS S [k + 1]) (fun j => if j = k + 1 then (k, k) else g j) (fun _ _ => 0) 0 (stsTo n k) → NewS w o L p n (k + 1) (wx.setCell ⟨bs, k, none⟩ (.int .i64 ((k : Int) + 1)))) := fun wx ox s' T1 => by
        obtain ⟨pf2, bs2, cap2, bm2, bg2, k1, k2, k3, k4, k5⟩ := T1
        have e1 := k1.cells.2.1
        rw [((h1'.step s' (fun h => h.2.2.1 rfl)).cells.2.1)] at e1
        simp only [Option.some.injEq, Value.slice.injEq, Addr.mk.injEq, and_true, true_and] at e1
        obtain ⟨rfl, rfl⟩ := e1
        obtain ⟨g', cap', hv', hlab, _, _, hgl, hcell', _⟩ := k3.pos (by omega)
        simp only [Value.slice.injEq, Option.some.injEq, Addr.mk.injEq, and_true, true_and] at hv'
        obtain ⟨rfl, rfl⟩ := hv'
        have sc : Step (fun i => i = L + 1101) wx ox (wx.setCell ⟨bs, k, none⟩ (.int .i64 ((k : Int) + 1))) ox := (Step.refl _ _ _).setCell ⟨bs, k, none⟩ _ hlab
        refine ⟨ox, _, _, _, ⟨pf2, bs, cap, bm2, bg2, k1.step sc (by omega), k2.step sc (fun k hk => by have := hk.2; omega), ?_, k4.step sc (by omega), k5.step sc (by omega)⟩, ?_, (s.trans (s'.mono fun _ h => h.1)).trans (sc.t1 (by omega) (by omega))⟩
        · have := k3.store k (.int .i64 ((k : Int) + 1))
          rw [stsTo_set n k hlt] at this
          exact this
        · intro j hj1 hj2
          by_cases e : j = k + 1
          · subst e
            refine ⟨by simp [upd], setS_in (by simp), by simp⟩
          · have := P j hj1 (by omega)
            refine ⟨by simp [upd, e, this.1], ?_, by simp [e, this.2.2]⟩
            rw [setS_out (by simp [e]), this.2.1]
      clear h1' h2' h3' h4' h5' T0 hmk P q1 q5 q6 q7 q8
      obtain ⟨c1, c2, c3, c4⟩ := HC.out _ _ sd
      have hkn : (k : Int) < (n : Int) := by omega
      go_wp2_with fail
      go_region_held (fun wx => wx.cell? ⟨p, 1, none⟩ = some (.slice (some ⟨bs, 0, none⟩) n cap)) (first | (with_reducible exact d1) | (with_reducible exact c1) | (with_reducible exact d4)) ((go_at_call 28; refine hwd.mono ?_; rintro e w1 ⟨rfl, o1', T1, s1'⟩; obtain ⟨d1, d2, d3, d4⟩ := HC.out _ _ (sd.trans s1'); have R := HE.out _ _ (sd.trans s1') T1))
      all_goals
        clear T1 hwd d1 d2 d3 d4
        go_wp2
        go_roundg (n - (k + 1))
        case measure => omega
        case rel => exact ⟨k + 1, by go_num, by omega, rfl, R⟩
    · obtain rfl : k = n := by omega
      rw [stsTo_all] at T
      have R : To wr o3 L p k k [] it S g (fun _ _ => 0) 0 := ⟨T, P.tp h1 h2⟩
      clear T
      go_wp2
      go_ret2
      exact ⟨p, rfl, o3, it, S, g, R, P, s⟩

end Go.Proofs.Ytnpfagpgploolaa
