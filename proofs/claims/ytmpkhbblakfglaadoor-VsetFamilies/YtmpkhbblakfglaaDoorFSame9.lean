/- The document's own Same. -/
import Derived.Test.YtmpkhbblakfglaaDoorFAdd9
import Derived.Test.YtmpkhbblakfglaaDoorFCan9
import Derived.Test.YtmpkhbblakfglaaDoorEq9
namespace Go.Proofs.YtmpkhbblakfglaaDoor
open Go.ChangeShapes Go.WideShapes Go.ChangeAt Go.RowKit Go.Maps
set_option linter.unusedVariables false
set_option linter.unusedSimpArgs false

/-- One group more, whole. -/
theorem GrpM.push {w w1 : World} {o o1 : Nat → Nat} {lo lb : Nat} {G : Grp} {vs : List Value} {u : Value} {x : Nat} {l : List ByteArray} {v1 : Value} (hlo : lo < lb) (hl : vs.length = G.length)
    (hG : ∀ i (h : i < G.length), ∃ u, vs[i]? = some u ∧ Row w o (lb + i) 9 1 u (G[i]).2.length (strsL (G[i]).2)) (hu : Row w o (lb + G.length) 9 1 u l.length (strsL l))
    (st : Step (fun k => k = lo) w o w1 o1) (hR : Row w1 o1 lo 28 1 v1 (G.length + 1) (vs ++ [u])) : GrpM w1 o1 lo lb v1 (G ++ [(x, l)]) := by
  refine ⟨vs ++ [u], by simpa using hR, fun i hi => ?_⟩
  by_cases hi' : i < G.length
  · obtain ⟨u', h1, h2⟩ := hG i hi'
    refine ⟨u', by rw [List.getElem?_append_left (by omega)]; exact h1, ?_⟩
    rw [List.getElem_append_left hi']
    exact h2.step st (by omega)
  · have e : i = G.length := by simp at hi; omega
    subst e
    refine ⟨u, by rw [← hl, List.getElem?_append_right (Nat.le_refl _)]; simp, ?_⟩
    simp only [List.getElem_append_right (Nat.le_refl _), Nat.sub_self, List.getElem_cons_zero]
    exact hu.step st (by omega)
theorem GrpM.form {w : World} {o : Nat → Nat} {lo lb : Nat} {v : Value} {G : Grp} (h : GrpM w o lo lb v G) : ∃ ao cap, v = .slice ao G.length cap := by
  obtain ⟨vs, hR, _⟩ := h
  exact hR.form
/-- What Same's lists may turn. -/
def SI (lo lb : Nat) : Nat → Prop := fun k => k = lo ∨ (lb ≤ k ∧ k < lb + 100)
def fTo (xs : List Nat) (i k : Nat) : Bool := (List.range k).all fun j => xs.getD j 0 != xs.getD i 0
theorem fTo_next (xs : List Nat) (i k : Nat) : fTo xs i (k + 1) = (fTo xs i k && !decide (xs.getD k 0 = xs.getD i 0)) := by
  unfold fTo
  have e : ∀ a b : Nat, (a != b) = !decide (a = b) := fun a b => by by_cases h : a = b <;> simp [h, bne]
  rw [List.range_succ, List.all_append, List.all_cons, List.all_nil, Bool.and_true, e (xs.getD k 0)]
theorem RF.two {w : World} {o : Nat → Nat} {L p a b : Nat} {ao : Option Addr} {ca : Nat} {so : Option Addr} {cs m : Nat} {NL : List ByteArray} {xs : List Nat} (h : RF w o L p a b ao ca so cs m NL xs) {k i : Nat} (hk : k < m) (hi : i < m) : ∃ g, so = some ⟨g, 0, none⟩ ∧ Hid (w.drew.cell? ⟨p, 1, none⟩ = some (.slice (some ⟨g, 0, none⟩) m cs) ∧ w.drew.rangeAt g (k * 64) (b64 (xs.getD k 0)) ∧ w.drew.rangeAt g (i * 64) (b64 (xs.getD i 0))) := by
  obtain ⟨g, rfl, r1, _⟩ := h.set k hk
  obtain ⟨g', e, r2, _⟩ := h.set i hi
  simp only [Option.some.injEq, Addr.mk.injEq, and_true] at e
  subst e
  exact ⟨g, rfl, h.blk.cells2.2.1, (World.rangeAt_drew _ _ _ _).2 r1, (World.rangeAt_drew _ _ _ _).2 r2⟩
def SaOut (w : World) (o : Nat → Nat) (lo lb m : Nat) (NL : List ByteArray) (xs : List Nat) (e : Ending) (w' : World) : Prop := ∃ v o', e = .returned v ∧ GrpM w' o' lo lb v (rG NL xs m m) ∧ Step (SI lo lb) w o w' o'
set_option maxRecDepth 100000 in
set_option maxHeartbeats 8000000 in
theorem refSame_c (w : World) (o : Nat → Nat) (L p m lo lb : Nat) (NL : List ByteArray) (xs : List Nat) (h : RX w o L p m NL xs) (hm : m ≤ 16) (hx : ∀ k, k < m → xs.getD k 0 < top64) (hll : lo < lb) (hsep : L + 4 < lo ∨ lb + 100 ≤ L) :
    Calls Tryd.prog 30 #[.pointer (some ⟨p, 0, none⟩)] w fun e w' => SaOut w o lo lb m NL xs e w' := by
  obtain ⟨a, b, ao, ca, so, cs, hR⟩ := h
  have qa := hR.la
  have qb := hR.lb
  have hcap := hR.nr.cap
  have hcap2 := hR.sr.cap
  have hcm : cs ≤ 9223372036854775807 := by have := hcap2.2.2; unfold maxLen at this; omega
  have hcm2 : ca ≤ 9223372036854775807 := by have := hcap.2.2; unfold maxLen at this; omega
  have hcs : m ≤ cs := hcap2.2.1
  have hca : m ≤ ca := hcap.2.1
  obtain ⟨is, his, hzs0, hzs1, hzs2⟩ := info_parts infoStr9
  obtain ⟨it, hit, hzt0, hzt1, hzt2⟩ := info_parts infoStrs
  have HX : Hid (∀ k, k < m → xs.getD k 0 < top64) := hx
  have HSt : Hid (∀ (wx : World) (ox : Nat → Nat), Step (SI lo lb) w o wx ox → RF wx ox L p a b ao ca so cs m NL xs) := fun wx ox s => hR.step s (fun k h1 h2 hk => by unfold SI at hk; omega)
  have c00 := hR.blk.cells2
  clear hcap hcap2 hx hR
  obtain ⟨c0, c1, _⟩ := c00
  go_enter Tryd.func30, Tryd.ntmps30
  go_wp2
  clear c0 c1
  go_loopw [3, 4] (fun v3 v4 wr => ∃ (i : Nat) (o' : Nat → Nat), i ≤ m ∧ v4 = .int .i64 (i : Nat) ∧ GrpM wr o' lo lb v3 (rG NL xs m i) ∧ Step (SI lo lb) w o wr o') (fun _ v4 _ => m - (intOf v4).toNat)
  case atStart => exact ⟨0, o, by omega, by go_num, GrpM.nil _ _ _ _, Step.refl _ _ _⟩
  case round =>
    obtain ⟨i, o1, hi, rfl, G1, S1⟩ := hrel
    obtain ⟨ga, gc, hv3⟩ := G1.form
    obtain ⟨N, hN⟩ : ∃ N, N = (rG NL xs m i).length := ⟨_, rfl⟩
    have HNN : Hid (N = (rG NL xs m i).length) := hN
    have hGl := rG_len NL xs m i
    rw [← hN] at hv3 hGl
    subst hv3
    clear hN
    have R1 := HSt.out _ _ S1
    obtain ⟨c0, c1, _⟩ := R1.blk.cells2
    by_cases hlt : i < m
    · have hiI : (i : Int) < (m : Int) := by omega
      clear R1
      go_wp2_with fail
      go_loopw [5, 6] (fun v5 v6 wq => ∃ k : Nat, k ≤ i ∧ v6 = .int .i64 (k : Nat) ∧ v5 = .bool (fTo xs i k) ∧ Step (fun _ => False) wr o1 wq o1) (fun _ v6 _ => i - (intOf v6).toNat)
      case atStart => exact ⟨0, by omega, by go_num, rfl, Step.refl _ _ _⟩
      case round =>
        obtain ⟨k, hk, rfl, rfl, sq⟩ := hrel
        have S2 := S1.trans (sq.mono fun _ h => h.elim)
        have R2 := HSt.out _ _ S2
        clear c0 c1
        by_cases hlk : k < i
        · have hkI : (k : Int) < (i : Int) := by omega
          obtain ⟨g, hso, HS⟩ := R2.two (k := k) (i := i) (by omega) hlt
          obtain ⟨c0, c1, _⟩ := R2.blk.cells2
          have hkm : (k : Int) < (m : Int) := by omega
          have hxk := HX.out k (by omega)
          have hxi := HX.out i hlt
          have HN : Hid (fTo xs i (k + 1) = (fTo xs i k && !decide (xs.getD k 0 = xs.getD i 0))) := fTo_next xs i k
          have sq2 := sq.drew
          generalize xs.getD k 0 = xk at HS hxk HN
          generalize xs.getD i 0 = xi at HS hxi HN
          rw [hso] at c1
          clear R2 S2 hso
          cases hft : fTo xs i k with
          | true =>
            rw [hft] at HN
            clear hft
            go_upto_region 9 with fail
            refine wp_region_noPanic ?_
            refine wp_region_held_drew (S := fun wx => wx.cell? ⟨p, 1, none⟩ = some (.slice (some ⟨g, 0, none⟩) m cs) ∧ wx.rangeAt g (k * 64) (b64 xk) ∧ wx.rangeAt g (i * 64) (b64 xi)) (by kernel_rfl) HS.out (fun hHeld => ?_)
            refine wpAnyH_take (i := 0) (v := ?v1) rfl (by kernel_rfl) (by kernel_rfl) (by kernel_rfl) (fun _ _ _ h => h) (Or.inl ⟨by rfl, ?hy1⟩) (by assumption) ?rest1
            case hy1 => (intro w hSw; (try dsimp only at hSw); go_simp; all_goals (with_reducible rfl))
            simp only [Act.put, List.getElem_toArray, List.getElem_cons_zero, List.getElem_cons_succ, List.setIfInBounds_toArray, List.set_cons_zero, List.set_cons_succ]
            refine wpAnyH_take (i := 1) (v := ?v2) rfl (by kernel_rfl) (by kernel_rfl) (by kernel_rfl) (fun _ _ _ h => h) (Or.inl ⟨by rfl, ?hy2⟩) (by assumption) ?rest2
            case hy2 => (intro w hSw; (try dsimp only at hSw); go_simp; all_goals (with_reducible rfl))
            simp only [Act.put, List.getElem_toArray, List.getElem_cons_zero, List.getElem_cons_succ, List.setIfInBounds_toArray, List.set_cons_zero, List.set_cons_succ]
            refine wpAnyH_take (i := 2) (v := ?v3) rfl (by kernel_rfl) (by kernel_rfl) (by kernel_rfl) (fun _ _ _ h => h) (Or.inl ⟨by rfl, ?hy3⟩) (by assumption) ?rest3
            case hy3 => (intro w hSw; (try dsimp only at hSw); go_simp; all_goals (with_reducible rfl))
            simp only [Act.put, List.getElem_toArray, List.getElem_cons_zero, List.getElem_cons_succ, List.setIfInBounds_toArray, List.set_cons_zero, List.set_cons_succ]
            refine wpAnyH_take (i := 3) (v := ?v4) rfl (by kernel_rfl) (by kernel_rfl) (by kernel_rfl) (fun _ _ _ h => h) (Or.inl ⟨by rfl, ?hy4⟩) (by assumption) ?rest4
            case hy4 => (intro w hSw; (try dsimp only at hSw); go_simp; all_goals (with_reducible rfl))
            simp only [Act.put, List.getElem_toArray, List.getElem_cons_zero, List.getElem_cons_succ, List.setIfInBounds_toArray, List.set_cons_zero, List.set_cons_succ]
            refine wpAnyH_take (i := 4) (v := ?v5) rfl (by kernel_rfl) (by kernel_rfl) (by kernel_rfl) (fun _ _ _ h => h) (Or.inl ⟨by rfl, ?hy5⟩) (by assumption) ?rest5
            case hy5 => (intro w hSw; (try dsimp only at hSw); go_simp; all_goals (with_reducible rfl))
            simp only [Act.put, List.getElem_toArray, List.getElem_cons_zero, List.getElem_cons_succ, List.setIfInBounds_toArray, List.set_cons_zero, List.set_cons_succ]
            refine wpAnyH_take (i := 5) (v := ?v6) rfl (by kernel_rfl) (by kernel_rfl) (by kernel_rfl) (fun _ _ _ h => h) (Or.inl ⟨by rfl, ?hy6⟩) (by assumption) ?rest6
            case hy6 => (intro w hSw; (try dsimp only at hSw); have c5 := hSw.1; go_simp; all_goals (with_reducible rfl))
            simp only [Act.put, List.getElem_toArray, List.getElem_cons_zero, List.getElem_cons_succ, List.setIfInBounds_toArray, List.set_cons_zero, List.set_cons_succ]
            refine wpAnyH_take (i := 6) (v := ?v7) rfl (by kernel_rfl) (by kernel_rfl) (by kernel_rfl) (fun _ _ _ h => h) (Or.inl ⟨by rfl, ?hy7⟩) (by assumption) ?rest7
            case hy7 => (intro w hSw; (try dsimp only at hSw); go_simp; all_goals (with_reducible rfl))
            simp only [Act.put, List.getElem_toArray, List.getElem_cons_zero, List.getElem_cons_succ, List.setIfInBounds_toArray, List.set_cons_zero, List.set_cons_succ]
            refine wpAnyH_take (i := 7) (v := ?v8) rfl (by kernel_rfl) (by kernel_rfl) (by kernel_rfl) (fun _ _ _ h => h) (Or.inl ⟨by rfl, ?hy8⟩) (by assumption) ?rest8
            case hy8 => (intro w hSw; (try dsimp only at hSw); go_simp; all_goals (with_reducible rfl))
            simp only [Act.put, List.getElem_toArray, List.getElem_cons_zero, List.getElem_cons_succ, List.setIfInBounds_toArray, List.set_cons_zero, List.set_cons_succ]
            refine wpAnyH_take (i := 8) (v := .agg (b64 xk).toArray) rfl (by kernel_rfl) (by kernel_rfl) (by kernel_rfl) (fun _ _ _ h => h) (yieldsIf_load_mid (by rfl) 57 _ rfl g (k * 64) rfl (b64 xk) _ (fun w hSw => hSw.2.1) Tryd.underlying57 rfl (sizeSet9 _)) (by assumption) ?_
            simp only [Act.put, List.getElem_toArray, List.getElem_cons_zero, List.getElem_cons_succ, List.setIfInBounds_toArray, List.set_cons_zero, List.set_cons_succ]
            refine wpAnyH_take (i := 9) (v := ?v9) rfl (by kernel_rfl) (by kernel_rfl) (by kernel_rfl) (fun _ _ _ h => h) (Or.inl ⟨by rfl, ?hy9⟩) (by assumption) ?rest9
            case hy9 => (intro w hSw; (try dsimp only at hSw); go_simp; all_goals (with_reducible rfl))
            simp only [Act.put, List.getElem_toArray, List.getElem_cons_zero, List.getElem_cons_succ, List.setIfInBounds_toArray, List.set_cons_zero, List.set_cons_succ]
            refine wpAnyH_take (i := 10) (v := ?v10) rfl (by kernel_rfl) (by kernel_rfl) (by kernel_rfl) (fun _ _ _ h => h) (Or.inl ⟨by rfl, ?hy10⟩) (by assumption) ?rest10
            case hy10 => (intro w hSw; (try dsimp only at hSw); go_simp; all_goals (with_reducible rfl))
            simp only [Act.put, List.getElem_toArray, List.getElem_cons_zero, List.getElem_cons_succ, List.setIfInBounds_toArray, List.set_cons_zero, List.set_cons_succ]
            refine wpAnyH_take (i := 11) (v := ?v11) rfl (by kernel_rfl) (by kernel_rfl) (by kernel_rfl) (fun _ _ _ h => h) (Or.inl ⟨by rfl, ?hy11⟩) (by assumption) ?rest11
            case hy11 => (intro w hSw; (try dsimp only at hSw); go_simp; all_goals (with_reducible rfl))
            simp only [Act.put, List.getElem_toArray, List.getElem_cons_zero, List.getElem_cons_succ, List.setIfInBounds_toArray, List.set_cons_zero, List.set_cons_succ]
            refine wpAnyH_take (i := 12) (v := ?v12) rfl (by kernel_rfl) (by kernel_rfl) (by kernel_rfl) (fun _ _ _ h => h) (Or.inl ⟨by rfl, ?hy12⟩) (by assumption) ?rest12
            case hy12 => (intro w hSw; (try dsimp only at hSw); have c5 := hSw.1; go_simp; all_goals (with_reducible rfl))
            simp only [Act.put, List.getElem_toArray, List.getElem_cons_zero, List.getElem_cons_succ, List.setIfInBounds_toArray, List.set_cons_zero, List.set_cons_succ]
            refine wpAnyH_take (i := 13) (v := ?v13) rfl (by kernel_rfl) (by kernel_rfl) (by kernel_rfl) (fun _ _ _ h => h) (Or.inl ⟨by rfl, ?hy13⟩) (by assumption) ?rest13
            case hy13 => (intro w hSw; (try dsimp only at hSw); go_simp; all_goals (with_reducible rfl))
            simp only [Act.put, List.getElem_toArray, List.getElem_cons_zero, List.getElem_cons_succ, List.setIfInBounds_toArray, List.set_cons_zero, List.set_cons_succ]
            refine wpAnyH_take (i := 14) (v := ?v14) rfl (by kernel_rfl) (by kernel_rfl) (by kernel_rfl) (fun _ _ _ h => h) (Or.inl ⟨by rfl, ?hy14⟩) (by assumption) ?rest14
            case hy14 => (intro w hSw; (try dsimp only at hSw); go_simp; all_goals (with_reducible rfl))
            simp only [Act.put, List.getElem_toArray, List.getElem_cons_zero, List.getElem_cons_succ, List.setIfInBounds_toArray, List.set_cons_zero, List.set_cons_succ]
            refine wpAnyH_take (i := 15) (v := .agg (b64 xi).toArray) rfl (by kernel_rfl) (by kernel_rfl) (by kernel_rfl) (fun _ _ _ h => h) (yieldsIf_load_mid (by rfl) 57 _ rfl g (i * 64) rfl (b64 xi) _ (fun w hSw => hSw.2.2) Tryd.underlying57 rfl (sizeSet9 _)) (by assumption) ?_
            simp only [Act.put, List.getElem_toArray, List.getElem_cons_zero, List.getElem_cons_succ, List.setIfInBounds_toArray, List.set_cons_zero, List.set_cons_succ]
            refine wpAnyH_take (i := 16) (v := .bool (!decide (xk = xi))) rfl (by kernel_rfl) (by kernel_rfl) (by kernel_rfl) (fun _ _ _ h => h) (Or.inl ⟨by rfl, ?hy15⟩) (by assumption) ?rest15
            case hy15 => (intro w hSw; (try dsimp only at hSw); have e25 := eq_arr64 hxk hxi w; go_simp; by_cases hxy : xk = xi <;> simp [hxy])
            simp only [Act.put, List.getElem_toArray, List.getElem_cons_zero, List.getElem_cons_succ, List.setIfInBounds_toArray, List.set_cons_zero, List.set_cons_succ]
            refine wpAnyH_take (i := 17) (v := ?v16) rfl (by kernel_rfl) (by kernel_rfl) (by kernel_rfl) (fun _ _ _ h => h) (Or.inl ⟨by rfl, ?hy16⟩) (by assumption) ?rest16
            case hy16 => (intro w hSw; (try dsimp only at hSw); go_simp; all_goals (with_reducible rfl))
            simp only [Act.put, List.getElem_toArray, List.getElem_cons_zero, List.getElem_cons_succ, List.setIfInBounds_toArray, List.set_cons_zero, List.set_cons_succ]
            refine wpAnyH_take (i := 18) (v := ?v17) rfl (by kernel_rfl) (by kernel_rfl) (by kernel_rfl) (fun _ _ _ h => h) (Or.inl ⟨by rfl, ?hy17⟩) (by assumption) ?rest17
            case hy17 => (intro w hSw; (try dsimp only at hSw); go_simp; all_goals (with_reducible rfl))
            simp only [Act.put, List.getElem_toArray, List.getElem_cons_zero, List.getElem_cons_succ, List.setIfInBounds_toArray, List.set_cons_zero, List.set_cons_succ]
            refine wpAnyH_done (by kernel_rfl) ?_ _
            refine NoPanic.normal ?_
            go_wp2
            go_roundw
            case rel => (try ((repeat apply Exists.intro); refine ⟨?_, rfl⟩)); exact ⟨k + 1, by omega, by go_num, by rw [HN.out]; by_cases hxy : xk = xi <;> simp [hxy], sq2⟩
            case measure => simp [intOf]; omega
          | false =>
            rw [hft] at HN
            clear hft
            go_upto_region 9 with fail
            refine wp_region_noPanic ?_
            refine wp_region_held_drew (S := fun wx => wx.cell? ⟨p, 1, none⟩ = some (.slice (some ⟨g, 0, none⟩) m cs) ∧ wx.rangeAt g (k * 64) (b64 xk) ∧ wx.rangeAt g (i * 64) (b64 xi)) (by kernel_rfl) HS.out (fun hHeld => ?_)
            refine wpAnyH_take (i := 0) (v := ?v18) rfl (by kernel_rfl) (by kernel_rfl) (by kernel_rfl) (fun _ _ _ h => h) (Or.inl ⟨by rfl, ?hy18⟩) (by assumption) ?rest18
            case hy18 => (intro w hSw; (try dsimp only at hSw); go_simp; all_goals (with_reducible rfl))
            simp only [Act.put, List.getElem_toArray, List.getElem_cons_zero, List.getElem_cons_succ, List.setIfInBounds_toArray, List.set_cons_zero, List.set_cons_succ]
            refine wpAnyH_take (i := 1) (v := ?v19) rfl (by kernel_rfl) (by kernel_rfl) (by kernel_rfl) (fun _ _ _ h => h) (Or.inl ⟨by rfl, ?hy19⟩) (by assumption) ?rest19
            case hy19 => (intro w hSw; (try dsimp only at hSw); go_simp; all_goals (with_reducible rfl))
            simp only [Act.put, List.getElem_toArray, List.getElem_cons_zero, List.getElem_cons_succ, List.setIfInBounds_toArray, List.set_cons_zero, List.set_cons_succ]
            refine wpAnyH_take (i := 2) (v := undef) rfl (by kernel_rfl) (by kernel_rfl) (by kernel_rfl) (fun _ _ _ h => h) (Or.inr ⟨?uw1, rfl⟩) (by assumption) ?urest1
            case uw1 => kernel_rfl
            simp only [Act.put, List.getElem_toArray, List.getElem_cons_zero, List.getElem_cons_succ, List.setIfInBounds_toArray, List.set_cons_zero, List.set_cons_succ]
            refine wpAnyH_take (i := 3) (v := undef) rfl (by kernel_rfl) (by kernel_rfl) (by kernel_rfl) (fun _ _ _ h => h) (Or.inr ⟨?uw2, rfl⟩) (by assumption) ?urest2
            case uw2 => kernel_rfl
            simp only [Act.put, List.getElem_toArray, List.getElem_cons_zero, List.getElem_cons_succ, List.setIfInBounds_toArray, List.set_cons_zero, List.set_cons_succ]
            refine wpAnyH_take (i := 4) (v := undef) rfl (by kernel_rfl) (by kernel_rfl) (by kernel_rfl) (fun _ _ _ h => h) (Or.inr ⟨?uw3, rfl⟩) (by assumption) ?urest3
            case uw3 => kernel_rfl
            simp only [Act.put, List.getElem_toArray, List.getElem_cons_zero, List.getElem_cons_succ, List.setIfInBounds_toArray, List.set_cons_zero, List.set_cons_succ]
            refine wpAnyH_take (i := 5) (v := undef) rfl (by kernel_rfl) (by kernel_rfl) (by kernel_rfl) (fun _ _ _ h => h) (Or.inr ⟨?uw4, rfl⟩) (by assumption) ?urest4
            case uw4 => kernel_rfl
            simp only [Act.put, List.getElem_toArray, List.getElem_cons_zero, List.getElem_cons_succ, List.setIfInBounds_toArray, List.set_cons_zero, List.set_cons_succ]
            refine wpAnyH_take (i := 6) (v := undef) rfl (by kernel_rfl) (by kernel_rfl) (by kernel_rfl) (fun _ _ _ h => h) (Or.inr ⟨?uw5, rfl⟩) (by assumption) ?urest5
            case uw5 => kernel_rfl
            simp only [Act.put, List.getElem_toArray, List.getElem_cons_zero, List.getElem_cons_succ, List.setIfInBounds_toArray, List.set_cons_zero, List.set_cons_succ]
            refine wpAnyH_take (i := 7) (v := undef) rfl (by kernel_rfl) (by kernel_rfl) (by kernel_rfl) (fun _ _ _ h => h) (Or.inr ⟨?uw6, rfl⟩) (by assumption) ?urest6
            case uw6 => kernel_rfl
            simp only [Act.put, List.getElem_toArray, List.getElem_cons_zero, List.getElem_cons_succ, List.setIfInBounds_toArray, List.set_cons_zero, List.set_cons_succ]
            refine wpAnyH_take (i := 8) (v := undef) rfl (by kernel_rfl) (by kernel_rfl) (by kernel_rfl) (fun _ _ _ h => h) (Or.inr ⟨?uw7, rfl⟩) (by assumption) ?urest7
            case uw7 => kernel_rfl
            simp only [Act.put, List.getElem_toArray, List.getElem_cons_zero, List.getElem_cons_succ, List.setIfInBounds_toArray, List.set_cons_zero, List.set_cons_succ]
            refine wpAnyH_take (i := 9) (v := undef) rfl (by kernel_rfl) (by kernel_rfl) (by kernel_rfl) (fun _ _ _ h => h) (Or.inr ⟨?uw8, rfl⟩) (by assumption) ?urest8
            case uw8 => kernel_rfl
            simp only [Act.put, List.getElem_toArray, List.getElem_cons_zero, List.getElem_cons_succ, List.setIfInBounds_toArray, List.set_cons_zero, List.set_cons_succ]
            refine wpAnyH_take (i := 10) (v := undef) rfl (by kernel_rfl) (by kernel_rfl) (by kernel_rfl) (fun _ _ _ h => h) (Or.inr ⟨?uw9, rfl⟩) (by assumption) ?urest9
            case uw9 => kernel_rfl
            simp only [Act.put, List.getElem_toArray, List.getElem_cons_zero, List.getElem_cons_succ, List.setIfInBounds_toArray, List.set_cons_zero, List.set_cons_succ]
            refine wpAnyH_take (i := 11) (v := undef) rfl (by kernel_rfl) (by kernel_rfl) (by kernel_rfl) (fun _ _ _ h => h) (Or.inr ⟨?uw10, rfl⟩) (by assumption) ?urest10
            case uw10 => kernel_rfl
            simp only [Act.put, List.getElem_toArray, List.getElem_cons_zero, List.getElem_cons_succ, List.setIfInBounds_toArray, List.set_cons_zero, List.set_cons_succ]
            refine wpAnyH_take (i := 12) (v := undef) rfl (by kernel_rfl) (by kernel_rfl) (by kernel_rfl) (fun _ _ _ h => h) (Or.inr ⟨?uw11, rfl⟩) (by assumption) ?urest11
            case uw11 => kernel_rfl
            simp only [Act.put, List.getElem_toArray, List.getElem_cons_zero, List.getElem_cons_succ, List.setIfInBounds_toArray, List.set_cons_zero, List.set_cons_succ]
            refine wpAnyH_take (i := 13) (v := undef) rfl (by kernel_rfl) (by kernel_rfl) (by kernel_rfl) (fun _ _ _ h => h) (Or.inr ⟨?uw12, rfl⟩) (by assumption) ?urest12
            case uw12 => kernel_rfl
            simp only [Act.put, List.getElem_toArray, List.getElem_cons_zero, List.getElem_cons_succ, List.setIfInBounds_toArray, List.set_cons_zero, List.set_cons_succ]
            refine wpAnyH_take (i := 14) (v := undef) rfl (by kernel_rfl) (by kernel_rfl) (by kernel_rfl) (fun _ _ _ h => h) (Or.inr ⟨?uw13, rfl⟩) (by assumption) ?urest13
            case uw13 => kernel_rfl
            simp only [Act.put, List.getElem_toArray, List.getElem_cons_zero, List.getElem_cons_succ, List.setIfInBounds_toArray, List.set_cons_zero, List.set_cons_succ]
            refine wpAnyH_take (i := 15) (v := undef) rfl (by kernel_rfl) (by kernel_rfl) (by kernel_rfl) (fun _ _ _ h => h) (Or.inr ⟨?uw14, rfl⟩) (by assumption) ?urest14
            case uw14 => kernel_rfl
            simp only [Act.put, List.getElem_toArray, List.getElem_cons_zero, List.getElem_cons_succ, List.setIfInBounds_toArray, List.set_cons_zero, List.set_cons_succ]
            refine wpAnyH_take (i := 16) (v := undef) rfl (by kernel_rfl) (by kernel_rfl) (by kernel_rfl) (fun _ _ _ h => h) (Or.inr ⟨?uw15, rfl⟩) (by assumption) ?urest15
            case uw15 => kernel_rfl
            simp only [Act.put, List.getElem_toArray, List.getElem_cons_zero, List.getElem_cons_succ, List.setIfInBounds_toArray, List.set_cons_zero, List.set_cons_succ]
            refine wpAnyH_take (i := 17) (v := ?v20) rfl (by kernel_rfl) (by kernel_rfl) (by kernel_rfl) (fun _ _ _ h => h) (Or.inl ⟨by rfl, ?hy20⟩) (by assumption) ?rest20
            case hy20 => (intro w hSw; (try dsimp only at hSw); go_simp; all_goals (with_reducible rfl))
            simp only [Act.put, List.getElem_toArray, List.getElem_cons_zero, List.getElem_cons_succ, List.setIfInBounds_toArray, List.set_cons_zero, List.set_cons_succ]
            refine wpAnyH_take (i := 18) (v := ?v21) rfl (by kernel_rfl) (by kernel_rfl) (by kernel_rfl) (fun _ _ _ h => h) (Or.inl ⟨by rfl, ?hy21⟩) (by assumption) ?rest21
            case hy21 => (intro w hSw; (try dsimp only at hSw); go_simp; all_goals (with_reducible rfl))
            simp only [Act.put, List.getElem_toArray, List.getElem_cons_zero, List.getElem_cons_succ, List.setIfInBounds_toArray, List.set_cons_zero, List.set_cons_succ]
            refine wpAnyH_done (by kernel_rfl) ?_ _
            refine NoPanic.normal ?_
            go_wp2
            go_roundw
            case rel => (try ((repeat apply Exists.intro); refine ⟨?_, rfl⟩)); exact ⟨k + 1, by omega, by go_num, by rw [HN.out]; simp, sq2⟩
            case measure => simp [intOf]; omega
        · obtain rfl : k = i := by omega
          have hkI : ¬ (k : Int) < (k : Int) := by omega
          have G2 := G1.step sq id (fun _ _ => id)
          have hfi : fTo xs k k = isF xs k := rfl
          rw [hfi]
          clear hfi R2 G1 S1 sq
          cases hf : isF xs k with
          | false =>
            have HG : Hid (rG NL xs m (k + 1) = rG NL xs m k) := by show _ = _; rw [rG, hf]; rfl
            clear hf
            go_wp2
            go_roundw
            case rel => (try ((repeat apply Exists.intro); refine ⟨?_, rfl⟩)); exact ⟨k + 1, o1, by omega, by go_num, by rw [HG.out]; exact G2, S2⟩
            case measure => simp [intOf]; omega
          | true =>
            have HG : Hid (rG NL xs m (k + 1) = rG NL xs m k ++ [(xs.getD k 0, gTo NL xs k m)]) := by show _ = _; rw [rG, hf]; rfl
            generalize rG NL xs m k = G at HG G2 HNN
            clear hf hkI
            go_wp2_with fail
            go_loopw [7, 8] (fun v7 v8 wq => ∃ (q : Nat) (o3 : Nat → Nat), k ≤ q ∧ q ≤ m ∧ v8 = .int .i64 (q : Nat) ∧ Row wq o3 (lb + N) 9 1 v7 (gTo NL xs k q).length (strsL (gTo NL xs k q)) ∧ (gTo NL xs k q).length ≤ q ∧ GrpM wq o3 lo lb (.slice ga N gc) G ∧ Step (SI lo lb) w o wq o3) (fun _ v8 _ => m - (intOf v8).toNat)
            case atStart => exact ⟨k, o1, Nat.le_refl _, by omega, rfl, by rw [gTo_start]; exact Row.nil _ _ _ _ _, by rw [gTo_start]; exact Nat.zero_le _, G2, S2⟩
            case round =>
              clear G2 S2
              obtain ⟨q, o3, hkq, hqm, rfl, r3, hlq, G3, S3⟩ := hrel
              have R3 := HSt.out _ _ S3
              obtain ⟨c0, c1, _⟩ := R3.blk.cells2
              by_cases hlq2 : q < m
              · have hqI : (q : Int) < (m : Int) := by omega
                obtain ⟨g, hso, HS⟩ := R3.two (k := q) (i := k) hlq2 hlt
                obtain ⟨gn, hao, cgn⟩ := R3.name q hlq2
                have hxk := HX.out q hlq2
                have hxi := HX.out k hlt
                have HN := gTo_next NL xs k q hkq
                have HN2 : Hid (gTo NL xs k (q + 1) = if xs.getD q 0 = xs.getD k 0 then gTo NL xs k q ++ [NL.getD q ⟨#[]⟩] else gTo NL xs k q) := HN
                have G4 := G3.step ((Step.refl (fun _ => False) wr o3).drew) id (fun _ _ => id)
                have r4 := r3.step ((Step.refl (fun _ => False) wr o3).drew) id
                have S4 := S3.drew
                clear HN G3 r3 S3 R3
                generalize gTo NL xs k q = l at r4 hlq HN2
                generalize NL.getD q ⟨#[]⟩ = nm at cgn HN2
                generalize xs.getD q 0 = xk at HS hxk HN2
                generalize xs.getD k 0 = xi at HS hxi HN2 HG
                rw [hso] at c1
                have HAO : Hid (ao = some ⟨gn, 0, none⟩) := hao
                clear hso hao
                obtain ⟨al, cl, hal⟩ := r4.form
                obtain ⟨Ml, hMl⟩ : ∃ Ml, Ml = l.length := ⟨_, rfl⟩
                have HML : Hid (Ml = l.length) := hMl
                rw [← hMl] at r4 hlq hal
                subst hal
                clear hMl
                go_upto_region 15 with fail
                refine wp_region_noPanic ?_
                refine wp_region_held_drew (S := fun wx => wx.cell? ⟨p, 1, none⟩ = some (.slice (some ⟨g, 0, none⟩) m cs) ∧ wx.rangeAt g (q * 64) (b64 xk) ∧ wx.rangeAt g (k * 64) (b64 xi)) (by kernel_rfl) HS.out (fun hHeld => ?_)
                refine wpAnyH_take (i := 0) (v := ?v22) rfl (by kernel_rfl) (by kernel_rfl) (by kernel_rfl) (fun _ _ _ h => h) (Or.inl ⟨by rfl, ?hy22⟩) (by assumption) ?rest22
                case hy22 => (intro w hSw; (try dsimp only at hSw); go_simp; all_goals (with_reducible rfl))
                simp only [Act.put, List.getElem_toArray, List.getElem_cons_zero, List.getElem_cons_succ, List.setIfInBounds_toArray, List.set_cons_zero, List.set_cons_succ]
                refine wpAnyH_take (i := 1) (v := ?v23) rfl (by kernel_rfl) (by kernel_rfl) (by kernel_rfl) (fun _ _ _ h => h) (Or.inl ⟨by rfl, ?hy23⟩) (by assumption) ?rest23
                case hy23 => (intro w hSw; (try dsimp only at hSw); go_simp; all_goals (with_reducible rfl))
                simp only [Act.put, List.getElem_toArray, List.getElem_cons_zero, List.getElem_cons_succ, List.setIfInBounds_toArray, List.set_cons_zero, List.set_cons_succ]
                refine wpAnyH_take (i := 2) (v := ?v24) rfl (by kernel_rfl) (by kernel_rfl) (by kernel_rfl) (fun _ _ _ h => h) (Or.inl ⟨by rfl, ?hy24⟩) (by assumption) ?rest24
                case hy24 => (intro w hSw; (try dsimp only at hSw); go_simp; all_goals (with_reducible rfl))
                simp only [Act.put, List.getElem_toArray, List.getElem_cons_zero, List.getElem_cons_succ, List.setIfInBounds_toArray, List.set_cons_zero, List.set_cons_succ]
                refine wpAnyH_take (i := 3) (v := ?v25) rfl (by kernel_rfl) (by kernel_rfl) (by kernel_rfl) (fun _ _ _ h => h) (Or.inl ⟨by rfl, ?hy25⟩) (by assumption) ?rest25
                case hy25 => (intro w hSw; (try dsimp only at hSw); have c5 := hSw.1; go_simp; all_goals (with_reducible rfl))
                simp only [Act.put, List.getElem_toArray, List.getElem_cons_zero, List.getElem_cons_succ, List.setIfInBounds_toArray, List.set_cons_zero, List.set_cons_succ]
                refine wpAnyH_take (i := 4) (v := ?v26) rfl (by kernel_rfl) (by kernel_rfl) (by kernel_rfl) (fun _ _ _ h => h) (Or.inl ⟨by rfl, ?hy26⟩) (by assumption) ?rest26
                case hy26 => (intro w hSw; (try dsimp only at hSw); go_simp; all_goals (with_reducible rfl))
                simp only [Act.put, List.getElem_toArray, List.getElem_cons_zero, List.getElem_cons_succ, List.setIfInBounds_toArray, List.set_cons_zero, List.set_cons_succ]
                refine wpAnyH_take (i := 5) (v := ?v27) rfl (by kernel_rfl) (by kernel_rfl) (by kernel_rfl) (fun _ _ _ h => h) (Or.inl ⟨by rfl, ?hy27⟩) (by assumption) ?rest27
                case hy27 => (intro w hSw; (try dsimp only at hSw); go_simp; all_goals (with_reducible rfl))
                simp only [Act.put, List.getElem_toArray, List.getElem_cons_zero, List.getElem_cons_succ, List.setIfInBounds_toArray, List.set_cons_zero, List.set_cons_succ]
                refine wpAnyH_take (i := 6) (v := .agg (b64 xk).toArray) rfl (by kernel_rfl) (by kernel_rfl) (by kernel_rfl) (fun _ _ _ h => h) (yieldsIf_load_mid (by rfl) 57 _ rfl g (q * 64) rfl (b64 xk) _ (fun w hSw => hSw.2.1) Tryd.underlying57 rfl (sizeSet9 _)) (by assumption) ?_
                simp only [Act.put, List.getElem_toArray, List.getElem_cons_zero, List.getElem_cons_succ, List.setIfInBounds_toArray, List.set_cons_zero, List.set_cons_succ]
                refine wpAnyH_take (i := 7) (v := ?v28) rfl (by kernel_rfl) (by kernel_rfl) (by kernel_rfl) (fun _ _ _ h => h) (Or.inl ⟨by rfl, ?hy28⟩) (by assumption) ?rest28
                case hy28 => (intro w hSw; (try dsimp only at hSw); go_simp; all_goals (with_reducible rfl))
                simp only [Act.put, List.getElem_toArray, List.getElem_cons_zero, List.getElem_cons_succ, List.setIfInBounds_toArray, List.set_cons_zero, List.set_cons_succ]
                refine wpAnyH_take (i := 8) (v := ?v29) rfl (by kernel_rfl) (by kernel_rfl) (by kernel_rfl) (fun _ _ _ h => h) (Or.inl ⟨by rfl, ?hy29⟩) (by assumption) ?rest29
                case hy29 => (intro w hSw; (try dsimp only at hSw); go_simp; all_goals (with_reducible rfl))
                simp only [Act.put, List.getElem_toArray, List.getElem_cons_zero, List.getElem_cons_succ, List.setIfInBounds_toArray, List.set_cons_zero, List.set_cons_succ]
                refine wpAnyH_take (i := 9) (v := ?v30) rfl (by kernel_rfl) (by kernel_rfl) (by kernel_rfl) (fun _ _ _ h => h) (Or.inl ⟨by rfl, ?hy30⟩) (by assumption) ?rest30
                case hy30 => (intro w hSw; (try dsimp only at hSw); go_simp; all_goals (with_reducible rfl))
                simp only [Act.put, List.getElem_toArray, List.getElem_cons_zero, List.getElem_cons_succ, List.setIfInBounds_toArray, List.set_cons_zero, List.set_cons_succ]
                refine wpAnyH_take (i := 10) (v := ?v31) rfl (by kernel_rfl) (by kernel_rfl) (by kernel_rfl) (fun _ _ _ h => h) (Or.inl ⟨by rfl, ?hy31⟩) (by assumption) ?rest31
                case hy31 => (intro w hSw; (try dsimp only at hSw); have c5 := hSw.1; go_simp; all_goals (with_reducible rfl))
                simp only [Act.put, List.getElem_toArray, List.getElem_cons_zero, List.getElem_cons_succ, List.setIfInBounds_toArray, List.set_cons_zero, List.set_cons_succ]
                refine wpAnyH_take (i := 11) (v := ?v32) rfl (by kernel_rfl) (by kernel_rfl) (by kernel_rfl) (fun _ _ _ h => h) (Or.inl ⟨by rfl, ?hy32⟩) (by assumption) ?rest32
                case hy32 => (intro w hSw; (try dsimp only at hSw); go_simp; all_goals (with_reducible rfl))
                simp only [Act.put, List.getElem_toArray, List.getElem_cons_zero, List.getElem_cons_succ, List.setIfInBounds_toArray, List.set_cons_zero, List.set_cons_succ]
                refine wpAnyH_take (i := 12) (v := ?v33) rfl (by kernel_rfl) (by kernel_rfl) (by kernel_rfl) (fun _ _ _ h => h) (Or.inl ⟨by rfl, ?hy33⟩) (by assumption) ?rest33
                case hy33 => (intro w hSw; (try dsimp only at hSw); go_simp; all_goals (with_reducible rfl))
                simp only [Act.put, List.getElem_toArray, List.getElem_cons_zero, List.getElem_cons_succ, List.setIfInBounds_toArray, List.set_cons_zero, List.set_cons_succ]
                refine wpAnyH_take (i := 13) (v := .agg (b64 xi).toArray) rfl (by kernel_rfl) (by kernel_rfl) (by kernel_rfl) (fun _ _ _ h => h) (yieldsIf_load_mid (by rfl) 57 _ rfl g (k * 64) rfl (b64 xi) _ (fun w hSw => hSw.2.2) Tryd.underlying57 rfl (sizeSet9 _)) (by assumption) ?_
                simp only [Act.put, List.getElem_toArray, List.getElem_cons_zero, List.getElem_cons_succ, List.setIfInBounds_toArray, List.set_cons_zero, List.set_cons_succ]
                refine wpAnyH_take (i := 14) (v := .bool (decide (xk = xi))) rfl (by kernel_rfl) (by kernel_rfl) (by kernel_rfl) (fun _ _ _ h => h) (Or.inl ⟨by rfl, ?hy34⟩) (by assumption) ?rest34
                case hy34 => (intro w hSw; (try dsimp only at hSw); have e25 := eq_arr64 hxk hxi w; go_simp; by_cases hxy : xk = xi <;> simp [hxy])
                simp only [Act.put, List.getElem_toArray, List.getElem_cons_zero, List.getElem_cons_succ, List.setIfInBounds_toArray, List.set_cons_zero, List.set_cons_succ]
                refine wpAnyH_done (by kernel_rfl) ?_ _
                refine NoPanic.normal ?_
                have cgd : wr.drew.cell? ⟨gn, q, none⟩ = some (.string nm) := cgn
                have c0d : wr.drew.cell? ⟨p, 0, none⟩ = some (.slice (some ⟨gn, 0, none⟩) m ca) := by rw [HAO.out] at c0; exact c0
                generalize wr.drew = w5 at G4 r4 S4 cgd c0d ⊢
                clear c0 c1 cgn HS hHeld
                by_cases hxy : xk = xi
                · have HN3 : Hid (gTo NL xs k (q + 1) = l ++ [nm]) := by show _ = _; rw [HN2.out, if_pos hxy]
                  have hdt : decide (xk = xi) = true := decide_eq_true hxy
                  have e1 : Ml + 1 ≤ maxLen := by unfold maxLen; omega
                  have e2 : (Ml + 1) * 16 ≤ 140737488355328 := by omega
                  clear HN2
                  go_wp2_with (at_builtin; refine wpList_append_lab rfl (.tmp 68) (.tmp 76) 28 rfl 9 is (.string ByteArray.empty) 1 16 Tryd.underlying28 his hzs0 hzs1 hzs2 rfl (by decide) o3 (lb + N) _ Ml (strsL l) rfl (r4.step (allocStep (fun _ => False) w5 o3 _) (by simp)) ⟨w5.heap.size, 0, none⟩ 1 1 [.string nm] rfl rfl (new_one_at (by simp) _ _) (by intro u hu; simp at hu; subst hu; rfl) (by decide) e1 e2 ?_)
                  intro g6 c6 w6 o6 r6 s6
                  have s6b := (allocStep (fun x => x = lb + N) w5 o3 _).trans s6
                  have G6 := G4.step s6b (by omega) (fun i hi => by have := HNN.out; omega)
                  have S6 := S4.trans (s6b.mono fun x hx => (by unfold SI; omega : SI lo lb x))
                  rw [← strsL_app] at r6
                  have r7 : Row w6 o6 (lb + N) 9 1 (.slice (some ⟨g6, 0, none⟩) (Ml + 1) c6) (gTo NL xs k (q + 1)).length (strsL (gTo NL xs k (q + 1))) := by rw [HN3.out, List.length_append, ← HML.out]; exact r6
                  have hl7 : (gTo NL xs k (q + 1)).length ≤ q + 1 := by rw [HN3.out, List.length_append, ← HML.out]; simp; omega
                  clear G4 r4 S4 s6 s6b r6 HN3 HML cgd c0d e1 e2
                  go_wp2
                  go_roundw
                  case rel => (try ((repeat apply Exists.intro); refine ⟨?_, rfl⟩)); exact ⟨q + 1, o6, by omega, by omega, by go_num, r7, hl7, G6, S6⟩
                  case measure => simp [intOf]; omega
                · have HN3 : Hid (gTo NL xs k (q + 1) = l) := by show _ = _; rw [HN2.out, if_neg hxy]
                  have hdt : decide (xk = xi) = false := decide_eq_false hxy
                  have r7 : Row w5 o3 (lb + N) 9 1 (.slice al Ml cl) (gTo NL xs k (q + 1)).length (strsL (gTo NL xs k (q + 1))) := by rw [HN3.out, ← HML.out]; exact r4
                  have hl7 : (gTo NL xs k (q + 1)).length ≤ q + 1 := by rw [HN3.out, ← HML.out]; omega
                  clear HN2 HN3 r4 HML cgd c0d
                  go_wp2
                  go_roundw
                  case rel => (try ((repeat apply Exists.intro); refine ⟨?_, rfl⟩)); exact ⟨q + 1, o3, by omega, by omega, by go_num, r7, hl7, G4, S4⟩
                  case measure => simp [intOf]; omega
              · obtain rfl : q = m := by omega
                have hqI : ¬ (q : Int) < (q : Int) := by omega
                obtain ⟨vs, hvs, hGs⟩ := G3
                have hvl : vs.length = G.length := by have := hvs.len; omega
                rw [← HNN.out] at hvs
                obtain ⟨al, cl, hal⟩ := r3.form
                obtain ⟨Ml, hMl⟩ : ∃ Ml, Ml = (gTo NL xs k q).length := ⟨_, rfl⟩
                have HML : Hid (Ml = (gTo NL xs k q).length) := hMl
                rw [← hMl] at hal
                subst hal
                have e1 : N + 1 ≤ maxLen := by unfold maxLen; omega
                have e2 : (N + 1) * 24 ≤ 140737488355328 := by omega
                clear R3 hMl
                go_wp2_with (at_builtin; refine wpList_append_lab rfl (.tmp 78) (.tmp 80) 32 rfl 28 it (.slice none 0 0) 1 24 Tryd.underlying32 hit hzt0 hzt1 hzt2 rfl (by decide) o3 lo _ N vs rfl (hvs.step (allocStep (fun _ => False) wr o3 _) (by simp)) ⟨wr.heap.size, 0, none⟩ 1 1 [.slice al Ml cl] rfl rfl (new_one_at (by simp) _ _) (by intro u hu; simp at hu; subst hu; rfl) (by decide) e1 e2 ?_)
                intro g6 c6 w6 o6 r6 s6
                have s6b := (allocStep (fun x => x = lo) wr o3 _).trans s6
                have G6 := GrpM.push (x := xs.getD k 0) (l := gTo NL xs k q) (u := .slice al Ml cl) hll hvl hGs (by rw [← HNN.out]; exact r3) s6b (by rw [← HNN.out]; exact r6)
                rw [← HG.out] at G6
                have S6 := S3.trans (s6b.mono fun x hx => (by unfold SI; omega : SI lo lb x))
                clear hvs hGs hvl r3 S3 s6 s6b r6 HML e1 e2 c0 c1
                go_wp2
                go_roundw
                case rel => (try ((repeat apply Exists.intro); refine ⟨?_, rfl⟩)); exact ⟨k + 1, o6, by omega, by go_num, G6, S6⟩
                case measure => simp [intOf]; omega
    · obtain rfl : i = m := by omega
      have hiI : ¬ (i : Int) < (i : Int) := by omega
      have HR : Hid (SaOut w o lo lb i NL xs (.returned (.slice ga N gc)) wr) := ⟨_, o1, rfl, G1, S1⟩
      clear R1 G1 S1
      go_wp2
      go_ret
      exact HR.out
end Go.Proofs.YtmpkhbblakfglaaDoor
