/- New trees. -/
import Derived.Test.YtffmlffhiimmdaaTx
import Derived.Deep.RegionHeld3
namespace Go.Proofs.Ytffmlffhiimmdaa
open Go.ChangeShapes Go.WideShapes Go.ChangeAt Go.RowKit Go.Maps
set_option linter.unusedVariables false

theorem pq_upd {pt : Nat → Nat} {e b k : Nat} (h : k ≠ e) : pq (upd pt e b) k = pq pt k := by unfold pq; rw [upd_other _ _ h]
theorem Lm.add {I : Nat → Prop} {w w' : World} {o o' : Nat → Nat} {L : Nat} {live : Nat → Prop} {pt : Nat → Nat} {E E' : Nat → Ed} {nd : Nat → Ln} {hv : Nat → Nat} {e b : Nat} (F : Lm w o L live pt E nd hv) (hs : Small live) (cl : Cl live nd) (hc : Hc live hv) (ne : ¬ live e) (e0 : e ≠ 0) (s : Step I w o w' o') (hi : ∀ k, NL L k → ¬ I k)
    (hE : ∀ k, live k → E' k = E k) (B : Blk w' o' (L + 5 + e) b (.cells (ncells (upd pt e b) E' ⟨0, 0, 0, false⟩ (own e) e) (ntype e) (0, 0))) :
    Lm w' o' L (addL live e) (upd pt e b) E' (upd nd e ⟨0, 0, 0, false⟩) (upd hv e (own e)) := by
  intro k lk
  rcases lk with lk | rfl
  · have ke : k ≠ e := fun x => ne (x ▸ lk)
    rw [upd_other _ _ ke, upd_other _ _ ke, upd_other _ _ ke]
    have old : ∀ j, (j ≠ 0 → live j) → pq (upd pt e b) j = pq pt j := fun j hj => pq_upd (fun x => by by_cases j0 : j = 0; exact e0 (x ▸ j0); exact ne (x ▸ hj j0))
    have own1 : own k ≠ 0 → live (own k) := fun x => (own_ok lk x).1
    have own2 : ownV k ≠ 0 → live (ownV k) := by
      unfold ownV; split
      · exact fun x => absurd rfl x
      · exact fun _ => lk
    have : ncells (upd pt e b) E' (nd k) (hv k) k = ncells pt E (nd k) (hv k) k := by
      unfold ncells
      rw [old _ (cl k lk).1, old _ (cl k lk).2.1, old _ (cl k lk).2.2, old _ own1, old _ own2, old _ (fun x => (hc k lk x).1), hE k lk]
    rw [this]
    exact (F k lk).step s (hi _ ⟨by have := hs k lk; omega, by have := hs k lk; omega⟩)
  · rw [upd_same, upd_same, upd_same]; exact B
theorem Fg.add {I : Nat → Prop} {w w' : World} {o o' : Nat → Nat} {L : Nat} {live : Nat → Prop} {pt : Nat → Nat} {E E' : Nat → Ed} {R : Nat → List Nat} {e b : Nat} (F : Fg w o L live pt E R) (ne : ¬ live e) (he : 1 ≤ e ∧ e < 3000000000000) (s : Step I w o w' o') (hi : ∀ k, NL L k → ¬ I k)
    (hE : ∀ k, live k → E' k = E k) (B : Blk w' o' (L + 5 + e) b (.cells (ncells (upd pt e b) E' ⟨0, 0, 0, false⟩ (own e) e) (ntype e) (0, 0))) :
    Fg w' o' L (addL live e) (upd pt e b) E' (upd R e [e]) := by
  obtain ⟨nd, hv, T, S, P, G, hR, hT⟩ := F
  have e0 : e ≠ 0 := by omega
  exact ⟨_, _, _, _, _, ⟨G.m.add G.s G.c.cl (G.v.hc G.c) ne e0 s hi hE B, fun k lk => lk.elim (G.s k) (fun x => x ▸ he), G.c.add G.s ne e0, G.v.add ne e0 hE G.c⟩, Rc.add G.c hR ne, hT.add ne⟩
theorem Fg.empty (w : World) (o : Nat → Nat) (L : Nat) (pt : Nat → Nat) (E : Nat → Ed) (R : Nat → List Nat) : Fg w o L (fun _ => False) pt E R :=
  ⟨fun _ => ⟨0, 0, 0, false⟩, fun _ => 0, fun _ => [], fun _ => [], fun _ => 0, ⟨fun _ h => h.elim, fun _ h => h.elim, ⟨id, rfl, fun _ h => h.elim, fun _ h => h.elim, fun _ h => h.elim, fun _ h => h.elim, fun _ h => h.elim, fun _ h => h.elim, fun _ h => h.elim, fun _ h => h.elim, fun _ h => h.elim, fun _ h => h.elim⟩, fun _ h => h.elim⟩, fun _ h => h.elim, ⟨fun _ h => h.elim, fun _ h => h.elim, fun _ h => h.elim, fun _ h => h.elim⟩⟩
theorem liveN0 : liveN 0 (fun _ => none) = fun _ => False := by
  funext k; apply propext; unfold liveN; split <;> simp
theorem liveN_add (k : Nat) : liveN (k + 1) (fun _ => none) = addL (liveN k (fun _ => none)) (2 * k + 1) := by
  funext j; apply propext; unfold addL liveN
  by_cases e : j % 2 = 0
  · rw [if_pos e, if_pos e]; simp; omega
  · rw [if_neg e, if_neg e]; omega
def vpsTo (pt : Nat → Nat) (n k : Nat) : List Value := (List.range n).map fun v => if v < k then .pointer (some ⟨pt (2 * v + 1), 0, none⟩) else .pointer none
theorem vpsTo_all (pt : Nat → Nat) (n : Nat) : vpsTo pt n n = vps pt n := by
  apply List.ext_getElem
  · simp [vpsTo, vps]
  · intro i h1 h2
    have : i < n := by simpa [vps] using h2
    simp [vpsTo, vps, this]
theorem vpsTo_set (pt : Nat → Nat) (n k b : Nat) (h : k < n) : (vpsTo pt n k).set k (.pointer (some ⟨b, 0, none⟩)) = vpsTo (upd pt (2 * k + 1) b) n (k + 1) := by
  apply List.ext_getElem
  · simp [vpsTo]
  · intro i h1 h2
    simp only [vpsTo, List.getElem_map, List.getElem_range, List.getElem_set]
    by_cases e : k = i
    · subst e; rw [if_pos rfl, if_pos (by omega), upd_same]
    · rw [if_neg e]
      by_cases e2 : i < k
      · rw [if_pos e2, if_pos (by omega), upd_other _ _ (by omega)]
      · rw [if_neg e2, if_neg (by omega)]
theorem madePtrs (pt : Nat → Nat) (n : Nat) : (madeCells (Value.pointer none).cells n).toList = vpsTo pt n 0 := by
  apply List.ext_getElem
  · simp [madeCells, vpsTo]
  · intro i h1 h2
    simp [madeCells, vpsTo, Value.cells, Nat.mod_one]
theorem infoPV : (Try.prog.info? 82).map (fun i => (i.zero, i.size, i.bytes)) = some (some (.pointer none), 1, 8) := by kernel_rfl
theorem altNew (n : Nat) : Alt n (fun _ => none) (fun x => [x]) := ⟨fun i x h => by simp at h, fun v _ => .inl rfl⟩

/-- The state of New's loop. -/
def NewS (w : World) (o : Nat → Nat) (L p n bv cap bm k : Nat) (wr : World) : Prop := ∃ o' pt, Tb wr o' L p n bv cap bm 0 (fun _ => none) (vpsTo pt n k) ∧ Fg wr o' L (liveN k (fun _ => none)) pt (edE fun _ => none) (fun x => [x]) ∧ Step (TL L) w o wr o'

set_option maxRecDepth 100000 in
set_option maxHeartbeats 4000000 in
theorem new_in (w : World) (o : Nat → Nat) (L n : Nat) (h1 : 1 ≤ n) (h2 : n ≤ 64) :
    Calls Try.prog 28 #[.int .i64 n] w fun e w' => ∃ p o', e = .returned (.tuple #[.pointer (some ⟨p, 0, none⟩), .int .i64 0]) ∧ Tx w' o' L p n (fun _ => none) (fun x => [x]) 0 ∧ Step (TL L) w o w' o' := by
  obtain ⟨ii, hii, hzi0, hzi1, hzi2⟩ := info_parts infoPV
  have hmm := @run_makeMap Try.prog
  have hd1 : decide ((n : Int) < 1) = false := decide_eq_false (by omega)
  have hd2 : decide ((64 : Int) < (n : Int)) = false := decide_eq_false (by omega)
  go_enter Try.func28, Try.ntmps28
  go_wp2_with (at_make; refine wpList_make_full _ rfl _ _ 78 rfl w.heap.size 82 ii (.pointer none) 1 Try.underlying78 hii hzi0 hzi1 .i64 .i64 _ _ n rfl rfl rfl rfl ?b2 ?b3 (Nat.le_refl _) ?_)
  case b2 => rw [hzi2]; omega
  case b3 => unfold maxLen; omega
  intro w2 hown hgr
  have s2 : Step (TL L) w o w2 (newLab w o (L + 1)) := ⟨hgr.os, hgr.tape, hgr.output, hgr.size, fun k hk => newLab_old hk, fun k hk _ => hgr.block k hk (by simp)⟩
  have r2 : Row w2 (newLab w o (L + 1)) (L + 1) 82 1 (.slice (some ⟨w.heap.size, 0, none⟩) n n) n (vpsTo id n 0) := by
    refine ⟨?_, fun k hk => ?_⟩
    · have := ownsRow_base0 hown
      have e : (madeCells (Value.pointer none).cells n).toList = vpsTo id n 0 := madePtrs id n
      rw [← e]
      exact this
    · simp [Value.ownBlock] at hk; subst hk; exact newLab_new (Nat.le_refl _)
  obtain ⟨o2, ho2⟩ : ∃ o2, o2 = newLab w o (L + 1) := ⟨_, rfl⟩
  rw [← ho2] at r2 s2
  have m3 := EdM.made w2 o2 (L + 2)
  have s3 := newStep (fun _ => False) w2 o2 (L + 2) (.map #[] 0)
  obtain ⟨o3, ho3⟩ : ∃ o3, o3 = newLab w2 o2 (L + 2) := ⟨_, rfl⟩
  rw [← ho3] at m3 s3
  have e4 : (w2.alloc (.map #[] 0)).heap.size = w2.heap.size + 1 := by simp
  have s5 := newStep (fun _ => False) (w2.alloc (.map #[] 0)) o3 L (.cells #[.slice (some ⟨w.heap.size, 0, none⟩) n n, .map (some w2.heap.size)] 81)
  have B5 : Blk ((w2.alloc (.map #[] 0)).alloc (.cells #[.slice (some ⟨w.heap.size, 0, none⟩) n n, .map (some w2.heap.size)] 81)) (newLab (w2.alloc (.map #[] 0)) o3 L) L (w2.heap.size + 1) (.cells #[.slice (some ⟨w.heap.size, 0, none⟩) n n, .map (some w2.heap.size)] 81 (0, 0)) := by
    rw [← e4]; exact ⟨heap_alloc_new _ _, newLab_new (Nat.le_refl _)⟩
  have START : NewS w o L (w2.heap.size + 1) n w.heap.size n w2.heap.size 0 ((w2.alloc (.map #[] 0)).alloc (.cells #[.slice (some ⟨w.heap.size, 0, none⟩) n n, .map (some w2.heap.size)] 81)) := by
    refine ⟨_, id, ⟨B5, (r2.step s3 id).step s5 id, m3.step s5 id⟩, ?_, s2.trans ((s3.trans s5).mono fun _ h => h.elim)⟩
    rw [liveN0]; exact Fg.empty _ _ _ _ _ _
  obtain ⟨p, hp⟩ : ∃ p, p = w2.heap.size + 1 := ⟨_, rfl⟩
  obtain ⟨bm, hbm⟩ : ∃ bm, bm = w2.heap.size := ⟨_, rfl⟩
  obtain ⟨bv, hbv⟩ : ∃ bv, bv = w.heap.size := ⟨_, rfl⟩
  clear hown hgr r2 m3 s2 s3 s5 B5 e4 ho2 ho3
  go_wp2
  rw [← hp, ← hbm, ← hbv] at START
  rw [← hp, ← hbm, ← hbv]
  clear hp hbm hbv
  go_loopg [18] n (fun gh i wr => ∃ k : Nat, i = .int .i64 (k : Nat) ∧ k ≤ n ∧ gh = n - k ∧ NewS w o L p n bv n bm k wr)
  case atStart => exact ⟨0, by go_num, by omega, by omega, START⟩
  case round =>
    clear START
    obtain ⟨k, rfl, hk, rfl, o3, pt, TB, F, s⟩ := hrel
    by_cases hlt : k < n
    · have HN : Hid (∀ wx, Step (fun _ => False) wr o3 wx o3 → (wx.cell? ⟨p, 0, none⟩ = some (.slice (some ⟨bv, 0, none⟩) n n)) ∧ Calls Try.prog 41 #[.int .i64 (k : Nat)] wx fun e w' => ∃ b, e = .returned (.pointer (some ⟨b, 0, none⟩)) ∧ ((w'.cell? ⟨p, 0, none⟩ = some (.slice (some ⟨bv, 0, none⟩) n n)) ∧ w'.cell? ⟨bv, k, none⟩ = some (.pointer none) ∧ w'.frozen? ⟨bv, k, none⟩ = false ∧ ((w'.setCell ⟨bv, k, none⟩ (.pointer (some ⟨b, 0, none⟩))).cell? ⟨p, 0, none⟩ = some (.slice (some ⟨bv, 0, none⟩) n n))) ∧ NewS w o L p n bv n bm (k + 1) (w'.setCell ⟨bv, k, none⟩ (.pointer (some ⟨b, 0, none⟩)))) := fun wx sx => by
        refine ⟨(TB.step sx (fun _ _ _ => id)).cells.1, ?_⟩
        refine (newVertex_any wx o3 (L + 5 + (2 * k + 1)) k).mono ?_
        rintro e w' ⟨b, o4, rfl, B, s4⟩
        have sA := sx.trans s4
        have TA := TB.step sA (fun _ _ _ => id)
        obtain ⟨g', cap', hv', hlab, _, _, _, hcell', hfr'⟩ := TA.2.1.pos (by omega)
        simp only [Value.slice.injEq, Option.some.injEq, Addr.mk.injEq, and_true, true_and] at hv'
        obtain ⟨rfl, rfl⟩ := hv'
        have sc : Step (fun i => i = L + 1) w' o4 (w'.setCell ⟨bv, k, none⟩ (.pointer (some ⟨b, 0, none⟩))) o4 := (Step.refl _ _ _).setCell ⟨bv, k, none⟩ _ hlab
        have F4 := Fg.add (e := 2 * k + 1) (b := b) (E' := edE fun _ => none) F (by unfold liveN; rw [if_neg (by omega)]; omega) (by omega) sA (fun _ _ => id) (fun _ _ => rfl) (by
          have : ncells (upd pt (2 * k + 1) b) (edE fun _ => none) ⟨0, 0, 0, false⟩ (own (2 * k + 1)) (2 * k + 1) = #[.pointer none, .pointer none, .pointer none, .bool false, .pointer (some ⟨b, 0, none⟩), .pointer none, .pointer none, .int .i64 k] := by
            have e1 : own (2 * k + 1) = 0 := by unfold own; rw [if_neg (by omega)]
            have e2 : ownV (2 * k + 1) = 2 * k + 1 := by unfold ownV; rw [if_neg (by omega)]
            have e3 : (2 * k + 1 - 1) / 2 = k := by omega
            unfold ncells
            rw [if_neg (by omega), e1, e2, e3, pqn _ (show 2 * k + 1 ≠ 0 by omega), upd_same]; rfl
          have e4 : ntype (2 * k + 1) = 95 := by unfold ntype; rw [if_neg (by omega)]
          rw [this, e4]; exact B)
        have eR : upd (fun x => [x]) (2 * k + 1) [2 * k + 1] = fun x : Nat => [x] := by funext j; unfold upd; split <;> simp_all
        rw [eR, ← liveN_add] at F4
        refine ⟨b, rfl, ⟨TA.cells.1, ?_, hfr' k, ?_⟩, o4, _, ⟨TA.1.step sc (by omega), ?_, TA.2.2.step sc (by omega)⟩, F4.step sc (fun k hk => by have := hk.1; omega), (s.trans (sA.mono fun _ h => h.elim)).trans (sc.mono fun i hi => ⟨by omega, by omega⟩)⟩
        · rw [hcell' k (by omega)]; simp [vpsTo, hlt]
        · have := TA.1.step sc (by omega)
          simp [cell_of_row _ p _ _ _ (0, 0) this.1]
        · have := TA.2.1.store k (.pointer (some ⟨b, 0, none⟩))
          rw [vpsTo_set pt n k b hlt] at this
          exact this
      have sd : Step (fun _ => False) wr o3 wr.drew o3 := (Step.refl _ _ _).drew
      obtain ⟨c1, hwd⟩ := HN.out _ sd
      have hkn : (k : Int) < (n : Int) := by omega
      clear TB F s HN
      go_wp2_with fail
      go_region_held3 (fun wx => wx.cell? ⟨p, 0, none⟩ = some (.slice (some ⟨bv, 0, none⟩) n n)) (first | (with_reducible exact d1) | (with_reducible exact c1) | (with_reducible exact d4)) ((go_at_call 41; refine hwd.mono ?_; rintro e w1 ⟨b, rfl, ⟨d1, d2, d3, d4⟩, R⟩))
      all_goals
        clear hwd d1 d2 d3 d4
        go_wp2
        go_roundg (n - (k + 1))
        case measure => omega
        case rel => exact ⟨k + 1, by go_num, by omega, rfl, R⟩
    · obtain rfl : k = n := by omega
      rw [vpsTo_all] at TB
      have R : Tx wr o3 L p k (fun _ => none) (fun x => [x]) 0 := by
        refine ⟨⟨h1, h2, fun i x h => by simp at h, altNew k⟩, pt, bv, k, bm, ⟨TB.1, TB.2.1, TB.2.2.congr fun j _ => ?_⟩, F⟩
        unfold edF; split <;> simp
      clear TB F
      go_wp2
      go_ret2
      exact ⟨p, o3, rfl, R, s⟩

end Go.Proofs.Ytffmlffhiimmdaa
