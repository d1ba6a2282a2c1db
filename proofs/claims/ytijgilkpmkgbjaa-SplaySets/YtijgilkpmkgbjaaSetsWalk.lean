/- The walk of the law SplaySets. -/
import Derived.Test.YtijgilkpmkgbjaaRowF
import Derived.Test.YtijgilkpmkgbjaaPieceWalk
import Derived.Test.YtijgilkpmkgbjaaGetF
import Derived.Test.YtijgilkpmkgbjaaSetF
namespace Go.Proofs.Ytijgilkpmkgbjaa
open Go.ChangeShapes Go.WideShapes Go.ChangeAt Go.RowKit
set_option linter.unusedVariables false

/-- What was made under labels of its own, beside what there was. -/
theorem Row.beside {w w' : World} {o o' : Nat → Nat} {lb : Nat} {e : TypeId} {size : Nat} {v : Value} {n : Nat} {xs : List Value} (s : Step (fun k => k = lb) w o0 w' o') (h0 : lb ≠ 0) (r : Row w' o' lb e size v n xs) :
    ∃ o'', Row w' o'' lb e size v n xs ∧ Step (fun _ => False) w o w' o'' := by
  refine ⟨fun k => if k < w.heap.size then o k else o' k, ⟨r.1, fun k hk => ?_⟩, s.os, s.tape, s.output, s.size, fun k hk => if_pos hk, fun k hk _ => s.block k hk (fun e => h0 e.symm)⟩
  have hl := r.2 k hk
  by_cases h : k < w.heap.size
  · have := s.lab k h
    rw [hl] at this
    exact absurd this h0
  · show (if k < w.heap.size then o k else o' k) = lb
    rw [if_neg h]; exact hl
theorem made_items : ∀ n : Nat, (madeCells (Value.agg #[.int .i64 0, .bool false, .int .i64 0]).cells (n * 3)).toList = itsL (List.replicate n ⟨0, false, 0⟩) := by
  intro n
  induction n with
  | zero => simp [madeCells, itsL]
  | succ n ih =>
    rw [List.replicate_succ', itsL_append, ← ih]
    have e : (n + 1) * 3 = n * 3 + 1 + 1 + 1 := by omega
    rw [e]
    have m0 : n * 3 % 3 = 0 := by omega
    have m1 : (n * 3 + 1) % 3 = 1 := by omega
    have m2 : (n * 3 + 1 + 1) % 3 = 2 := by omega
    simp [madeCells, List.range_succ, Value.cells, m0, m1, m2, itsL]
theorem its_set (x z : It) (B : List It) : ∀ A : List It, (((itsL (A ++ z :: B)).set (A.length * 3) (.int .i64 x.v)).set (A.length * 3 + 1) (.bool x.c)).set (A.length * 3 + 2) (.int .i64 x.f) = itsL (A ++ x :: B)
  | [] => by simp [itsL]
  | a :: A => by
    have ih := its_set x z B A
    have e : (a :: A).length * 3 = A.length * 3 + 3 := by simp; omega
    rw [e]
    simpa [itsL] using ih
theorem Row.put3 {w : World} {o : Nat → Nat} {i : Nat} {e : TypeId} {size g n cap : Nat} {xs : List Value} (h : Row w o i e size (.slice (some ⟨g, 0, none⟩) n cap) n xs) (j : Nat) (u v x : Value) :
    Row (((w.setCell ⟨g, j, none⟩ u).setCell ⟨g, j + 1, none⟩ v).setCell ⟨g, j + 2, none⟩ x) o i e size (.slice (some ⟨g, 0, none⟩) n cap) n (((xs.set j u).set (j + 1) v).set (j + 2) x) := ((h.store j u).store (j + 1) v).store (j + 2) x
/-- What is laid of all so far. -/
def ownL (xs : List Nat) (it : Nat → It) (j : Nat) : List It := (xs.map it).take j ++ List.replicate (xs.length - j) ⟨0, false, 0⟩
theorem ownL_len {xs : List Nat} {it : Nat → It} {j : Nat} (h : j ≤ xs.length) : (ownL xs it j).length = xs.length := by simp [ownL]; omega
theorem ownL_zero (xs : List Nat) (it : Nat → It) : ownL xs it 0 = List.replicate xs.length ⟨0, false, 0⟩ := by simp [ownL]
theorem ownL_all (xs : List Nat) (it : Nat → It) : ownL xs it xs.length = xs.map it := by
  unfold ownL
  rw [Nat.sub_self, List.replicate_zero, List.append_nil, List.take_of_length_le (by simp)]
theorem ownL_set {xs : List Nat} {it : Nat → It} {j : Nat} (h : j < xs.length) : (((itsL (ownL xs it j)).set (j * 3) (.int .i64 (it xs[j]).v)).set (j * 3 + 1) (.bool (it xs[j]).c)).set (j * 3 + 2) (.int .i64 (it xs[j]).f) = itsL (ownL xs it (j + 1)) := by
  have e1 : ownL xs it j = (xs.map it).take j ++ ⟨0, false, 0⟩ :: List.replicate (xs.length - (j + 1)) ⟨0, false, 0⟩ := by
    unfold ownL
    rw [show xs.length - j = (xs.length - (j + 1)) + 1 by omega, List.replicate_succ]
  have e2 : ownL xs it (j + 1) = (xs.map it).take j ++ it xs[j] :: List.replicate (xs.length - (j + 1)) ⟨0, false, 0⟩ := by
    unfold ownL
    rw [List.take_succ_eq_append_getElem (by simpa using h)]
    simp
  have hl : ((xs.map it).take j).length = j := by simp; omega
  have := its_set (it xs[j]) ⟨0, false, 0⟩ (List.replicate (xs.length - (j + 1)) ⟨0, false, 0⟩) ((xs.map it).take j)
  rw [hl] at this
  rw [e1, e2]; exact this
theorem Row.vwI {w : World} {o : Nat → Nat} {i g n cap : Nat} {its : List It} (h : Row w o i 36 3 (.slice (some ⟨g, 0, none⟩) n cap) n (itsL its)) (hn : n = its.length) (h0 : 0 < n) : VwI w o i (.slice (some ⟨g, 0, none⟩) n cap) its := by
  subst hn
  obtain ⟨g', cap', hv', h1, h2, h3, h4, h5, _⟩ := h.pos h0
  simp only [Value.slice.injEq, Option.some.injEq, Addr.mk.injEq, and_true, true_and] at hv'
  obtain ⟨rfl, rfl⟩ := hv'
  refine ⟨g, 0, cap, rfl, h2, h3, h1, h4, fun j hj => ?_⟩
  obtain ⟨i0, i1, i2⟩ := itsL_get its j hj
  rw [Nat.zero_add]
  exact ⟨(h5 _ (by omega)).trans i0, (h5 _ (by omega)).trans i1, (h5 _ (by omega)).trans i2⟩
/-- The state of the inner loop. -/
def InS (w : World) (p n : Nat) (S : Nat → List Nat) (xs : List Nat) (va : Value) (ys : List It) (vy : Value) (it : Nat → It) (b : Nat) (x : It) (vo : Value) (j : Nat) (wr : World) : Prop :=
  ∃ o', Fo wr o' 1 p 1024 n [] it S ∧ Row wr o' 2002 3 1 va n (intsL xs) ∧ Row wr o' 2003 36 3 vy ys.length (itsL ys) ∧ Blk wr o' 6100 b (.cells #[.int .i64 x.v, .bool x.c, .int .i64 x.f] 36 (0, 0)) ∧ Row wr o' 6101 36 3 vo n (itsL (ownL xs it j)) ∧ Step Pos w o0 wr o'
/-- The state of the loop: items are laid anew, nothing else. -/
def SetsS (w : World) (p n : Nat) (S : Nat → List Nat) (xs : List Nat) (va : Value) (ys : List It) (vy : Value) (wr : World) : Prop :=
  ∃ o' it, Fo wr o' 1 p 1024 n [] it S ∧ Row wr o' 2002 3 1 va n (intsL xs) ∧ Row wr o' 2003 36 3 vy ys.length (itsL ys) ∧ Step Pos w o0 wr o'

set_option maxRecDepth 100000 in
set_option maxHeartbeats 8000000 in
theorem sets_walk (w : World) (a0 ah ac am : Option Addr) (len0 cap0 lenh caph lenc capc lenm capm : Nat) (f : Nat → RawIt) (z y : Nat → Int) (fm : Nat → RawIt) (ha0 : ArgIts w a0 len0 f) (hah : Arg w ah lenh z) (hac : Arg w ac lenc y) (ham : ArgIts w am lenm fm) (h1 : len0 ≤ 9223372036854775807) (h2 : lenh ≤ 9223372036854775807) (h3 : lenc ≤ 9223372036854775807) (h4 : lenm ≤ 9223372036854775807) :
    Calls Try.prog 5 #[.slice a0 len0 cap0, .slice ah lenh caph, .slice ac lenc capc, .slice am lenm capm] w fun e w' => e = .returned (.bool true) ∧ Below w.heap.size w w' := by
  obtain ⟨ii, hii, hzi0, hzi1, hzi2⟩ := info_parts infoItem
  have npos : ¬ Pos 0 := by unfold Pos; omega
  go_enter Try.func5, Try.ntmps5
  go_wp2_with fail
  refine (awake_any w).mono ?_
  rintro e w1 ⟨rfl, hb1⟩
  have t1 : Step Pos w o0 w1 o0 := Step.ofBelow o0 hb1
  go_wp2_with fail
  refine (items_any w1 o0 a0 len0 cap0 60 2001 f (ha0.below hb1) h1 (by omega) (fun k _ => by unfold o0; omega) (by omega)).mono ?_
  rintro e w2 ⟨vi, its, o2, rfl, ⟨hi1, hi2⟩, hmay, ri, s2⟩
  have t2 := t1.trans (s2.mono (J := Pos) fun k hk => by unfold Pos; omega)
  have H2 := hah.at0.step t2 npos
  have hvi := ri.form
  obtain ⟨ai, ci, rfl⟩ := hvi
  have nF : ∀ k, 2000 ≤ k → ¬ FL 1 k := fun k hk h => by have := h.2; omega
  clear t1 s2 hb1
  go_wp2_with fail
  refine (row_any w2 o2 2002 2001 _ its ah lenh caph z ri hmay (by omega) H2 h2 (nF _ (by omega)) (by omega) (by omega) (nF _ (by omega))).mono ?_
  rintro e w3 ⟨p, v3, xs, o3, it, S, rfl, F3, O3, _, r3, s3⟩
  have t3 := t2.trans (s3.mono (J := Pos) fun k hk => by unfold Pos; rcases hk with hk | hk; have := hk.1; omega; omega)
  have hxl := O3.len
  rw [hxl] at r3
  have hm3 := ham.below t3.old
  have hit := items_any w3 o0 am lenm capm 60 2003 fm hm3 h4 (by omega) (fun k _ => by unfold o0; omega) (by omega)
  obtain ⟨ga, ca, rfl, hrest⟩ := r3.pos (by omega)
  clear H2 ri hmay t2 s3 hrest hm3
  go_wp2_with fail
  refine hit.mono ?_
  rintro e w4 ⟨vy, ys, o4', rfl, ⟨hy1, hy2⟩, hmy, ry', s4'⟩
  obtain ⟨o4, ry, s4⟩ := Row.beside (o := o3) s4' (by omega) ry'
  have t4 := t3.trans s4.pos0
  have F4 := F3.quiet s4
  have r4 := r3.step s4 id
  obtain ⟨gy, cy, rfl, hresty⟩ := ry.pos hy1
  have HO : Hid (One its.length S xs) := O3
  have HMY : Hid (∀ x ∈ ys, It.may x) := hmy
  have START : SetsS w p its.length S xs (.slice (some ⟨ga, 0, none⟩) its.length ca) ys (.slice (some ⟨gy, 0, none⟩) ys.length cy) w4 := ⟨o4, it, F4, r4, ry, t4⟩
  clear hit t3 F3 r3 s4 s4' ry' t4 F4 r4 ry hresty O3 hmy
  go_wp2
  go_loopg [13] 60 (fun gh u wr => ∃ k : Nat, u = .int .i64 (k : Nat) ∧ k ≤ lenc ∧ k ≤ 60 ∧ gh = 60 - k ∧ SetsS w p its.length S xs (.slice (some ⟨ga, 0, none⟩) its.length ca) ys (.slice (some ⟨gy, 0, none⟩) ys.length cy) wr)
  case atStart => exact ⟨0, by go_num, by omega, by omega, by omega, START⟩
  case round =>
    clear START
    obtain ⟨k, rfl, hk, hk60, rfl, o5, it5, F5, r5, ry5, t5⟩ := hrel
    obtain ⟨ga', ca', hv', hga1, hga2, hga3, hga4, hga5, hga6⟩ := r5.pos (by omega)
    simp only [Value.slice.injEq, Option.some.injEq, Addr.mk.injEq, and_true, true_and] at hv'
    obtain ⟨rfl, rfl⟩ := hv'
    obtain ⟨gy', cy', hv', hgy1, hgy2, hgy3, hgy4, hgy5, hgy6⟩ := ry5.pos hy1
    simp only [Value.slice.injEq, Option.some.injEq, Addr.mk.injEq, and_true, true_and] at hv'
    obtain ⟨rfl, rfl⟩ := hv'
    unfold maxLen at hga3 hgy3
    by_cases hlt : k < lenc ∧ k < 60
    · obtain ⟨hlt1, hlt2⟩ := hlt
      obtain ⟨bc, offc, rfl, hbc, hoc, hcc, hyb1, hyb2⟩ := hac.at0.step t5 npos k hlt1
      have hpk := pick_any (y k) its.length wr hyb1 hyb2 (by omega) (by omega)
      obtain ⟨q, hq⟩ : ∃ q, q = k % ys.length := ⟨_, rfl⟩
      have hqy : q < ys.length := by rw [hq]; exact Nat.mod_lt _ hy1
      have erem : (k : Int) % (ys.length : Int) = (q : Int) := by rw [hq]; simp
      have erem1 : Int.tmod (k : Int) (ys.length : Int) = (q : Int) := by rw [Int.tmod_eq_emod_of_nonneg (by omega)]; exact erem
      obtain ⟨i0, i1, i2⟩ := itsL_get ys q hqy
      have y0 := (hgy5 (q * 3) (by omega)).trans i0
      have y1 := (hgy5 (q * 3 + 1) (by omega)).trans i1
      have y2 := (hgy5 (q * 3 + 2) (by omega)).trans i2
      have hmx := HMY.out _ (List.getElem_mem hqy)
      obtain ⟨x, hx⟩ : ∃ x, x = ys[q] := ⟨_, rfl⟩
      rw [← hx] at y0 y1 y2 hmx
      have hqn : (q : Int) < (ys.length : Int) := by omega
      have z1 : ((ys.length : Int) == 0) = false := by simp only [beq_eq_false_iff_ne, ne_eq]; omega
      have z2 : ((ys.length : Int) == -1) = false := by simp only [beq_eq_false_iff_ne, ne_eq]; omega
      obtain ⟨ly, hly⟩ : ∃ ly, ly = ys.length := ⟨_, rfl⟩
      have HLY : Hid (ly = ys.length) := hly
      rw [← hly] at erem erem1 hqn z1 z2 hqy hy1 hy2 hgy2 ⊢
      clear hly hq
      have HCA : Hid (∀ wx ox, Step (fun k => FL 1 k ∨ 6000 ≤ k) wr o5 wx ox → ∀ j (hj : j < xs.length), wx.cell? ⟨ga, j, none⟩ = some (.int .i64 (xs[j] : Nat))) := fun wx ox s j hj => by
        rw [s.cell hga4 (by rw [hga1]; exact fun h => h.elim (nF _ (by omega)) (by omega)), hga5 j (by rw [← hxl]; omega)]; exact intsL_get xs j hj
      clear hga5 hgy5 hga6 hgy6 i0 i1 i2 hx
      go_wp2_with fail
      refine hpk.mono ?_
      rintro e w6 ⟨r, hr, rfl, hw6⟩
      obtain rfl : wr = w6 := hw6.symm
      clear hpk
      have hrx : r < xs.length := by omega
      have lr := HO.out.live (List.getElem_mem hrx)
      have HX : Hid (xs.length = its.length) := hxl
      have n7 := newStep (fun _ => False) wr o5 6100 (.cells #[.int .i64 x.v, .bool x.c, .int .i64 x.f] 36)
      have B7 : Blk (wr.alloc (.cells #[.int .i64 x.v, .bool x.c, .int .i64 x.f] 36)) (newLab wr o5 6100) 6100 wr.heap.size (.cells #[.int .i64 x.v, .bool x.c, .int .i64 x.f] 36 (0, 0)) := ⟨heap_alloc_new wr _, newLab_new (Nat.le_refl _)⟩
      have q7 : Step (fun _ => False) (wr.alloc (.cells #[.int .i64 x.v, .bool x.c, .int .i64 x.f] 36)) (newLab wr o5 6100) (wr.alloc (.cells #[.int .i64 x.v, .bool x.c, .int .i64 x.f] 36)).drew (newLab wr o5 6100) := (Step.refl _ _ _).drew
      have F7 := (F5.quiet n7).quiet q7
      have hset := setInF _ _ 1 p 1024 its.length [] it5 S xs[r] x F7 lr hmx
      unfold itemV at hset
      have KK : ∀ wx ox, Step (FL 1) (wr.alloc (.cells #[.int .i64 x.v, .bool x.c, .int .i64 x.f] 36)) (newLab wr o5 6100) wx ox → wx.cell? ⟨ga, r, none⟩ = some (.int .i64 (xs[r] : Nat)) ∧ wx.cell? ⟨wr.heap.size, 0, none⟩ = some (.int .i64 x.v) ∧ wx.cell? ⟨wr.heap.size, 1, none⟩ = some (.bool x.c) ∧ wx.cell? ⟨wr.heap.size, 2, none⟩ = some (.int .i64 x.f) := fun wx ox s =>
        ⟨HCA.out _ _ ((n7.mono fun _ h => h.elim).trans (s.mono fun k hk => .inl hk)) r hrx, (B7.step s (nF _ (by omega))).cells3.1, (B7.step s (nF _ (by omega))).cells3.2.1, (B7.step s (nF _ (by omega))).cells3.2.2.1⟩
      obtain ⟨a, ha⟩ : ∃ a, a = xs[r] := ⟨_, rfl⟩
      rw [← ha] at hset KK
      have HK : Hid (∀ wx ox, Step (FL 1) (wr.alloc (.cells #[.int .i64 x.v, .bool x.c, .int .i64 x.f] 36)) (newLab wr o5 6100) wx ox → wx.cell? ⟨ga, r, none⟩ = some (.int .i64 (a : Nat)) ∧ wx.cell? ⟨wr.heap.size, 0, none⟩ = some (.int .i64 x.v) ∧ wx.cell? ⟨wr.heap.size, 1, none⟩ = some (.bool x.c) ∧ wx.cell? ⟨wr.heap.size, 2, none⟩ = some (.int .i64 x.f)) := KK
      have sd7 : Step (FL 1) (wr.alloc (.cells #[.int .i64 x.v, .bool x.c, .int .i64 x.f] 36)) (newLab wr o5 6100) (wr.alloc (.cells #[.int .i64 x.v, .bool x.c, .int .i64 x.f] 36)).drew (newLab wr o5 6100) := (Step.refl _ _ _).drew
      have k0 := KK _ _ sd7
      have HA : Hid (a = xs[r]) := ha
      clear KK F7 ha q7 F5
      go_wp2_with fail
      go_region_held (fun wx => wx.cell? ⟨ga, r, none⟩ = some (.int .i64 (a : Nat)) ∧ wx.cell? ⟨wr.heap.size, 0, none⟩ = some (.int .i64 x.v) ∧ wx.cell? ⟨wr.heap.size, 1, none⟩ = some (.bool x.c) ∧ wx.cell? ⟨wr.heap.size, 2, none⟩ = some (.int .i64 x.f)) (first | (with_reducible exact k1) | (with_reducible exact k0)) ((go_at_call 21; refine hset.mono ?_; rintro e w8 ⟨rfl, o8, F8, s8⟩; have k1 := HK.out _ _ (sd7.trans s8)))
      all_goals
        have s8' : Step (FL 1) wr o5 w8 o8 := (n7.mono fun _ h => h.elim).trans (sd7.trans s8)
        have r8 := r5.step s8' (nF _ (by omega))
        have ry8 := ry5.step s8' (nF _ (by omega))
        have B8 := B7.step (sd7.trans s8) (nF _ (by omega))
        have t8 := t5.trans (s8'.posF (by omega))
        obtain ⟨bx, hbx⟩ : ∃ bx, bx = wr.heap.size := ⟨_, rfl⟩
        rw [← hbx] at B8 ⊢
        clear hset k0 k1 s8 s8' sd7 n7 B7 HK r5 ry5 t5 HCA hbx
        go_wp2_with (at_make; refine wpList_make_full _ rfl _ _ 41 rfl w8.heap.size 36 ii (.agg #[.int .i64 0, .bool false, .int .i64 0]) 3 Try.underlying41 hii hzi0 hzi1 .i64 .i64 _ _ its.length rfl rfl rfl rfl ?b2 ?b3 (Nat.le_refl _) ?_)
        case b2 => rw [hzi2]; omega
        case b3 => unfold maxLen; omega
        intro w9 hown hgr
        have s9 : Step (fun _ => False) w8 o8 w9 (newLab w8 o8 6101) := ⟨hgr.os, hgr.tape, hgr.output, hgr.size, fun k hk => newLab_old hk, fun k hk _ => hgr.block k hk (by simp)⟩
        have r9 : Row w9 (newLab w8 o8 6101) 6101 36 3 (.slice (some ⟨w8.heap.size, 0, none⟩) its.length its.length) its.length (itsL (ownL xs (upd it5 a x) 0)) := by
          refine ⟨?_, fun k hk => ?_⟩
          · have := ownsRow_base0 hown
            rw [ownL_zero, HX.out, ← made_items]
            exact this
          · simp [Value.ownBlock] at hk; subst hk; exact newLab_new (Nat.le_refl _)
        have IN : InS w p its.length S xs (.slice (some ⟨ga, 0, none⟩) its.length ca) ys (.slice (some ⟨gy, 0, none⟩) ys.length cy) (upd it5 a x) bx x (.slice (some ⟨w8.heap.size, 0, none⟩) its.length its.length) 0 w9 := ⟨_, F8.quiet s9, r8.step s9 id, ry8.step s9 id, B8.step s9 id, r9, t8.trans s9.pos0⟩
        obtain ⟨go, hgo⟩ : ∃ go, go = w8.heap.size := ⟨_, rfl⟩
        rw [← hgo] at IN ⊢
        clear hown hgr s9 r9 F8 r8 ry8 B8 t8 hgo
        go_wp2
        go_loopg [17] its.length (fun gh i wx => ∃ j : Nat, i = .int .i64 (j : Nat) ∧ j ≤ its.length ∧ gh = its.length - j ∧ InS w p its.length S xs (.slice (some ⟨ga, 0, none⟩) its.length ca) ys (.slice (some ⟨gy, 0, none⟩) ys.length cy) (upd it5 a x) bx x (.slice (some ⟨go, 0, none⟩) its.length its.length) j wx)
        case atStart => exact ⟨0, by go_num, by omega, by omega, IN⟩
        case round =>
          clear IN
          obtain ⟨j, rfl, hj, rfl, o10, F10, r10, ry10, B10, ro10, t10⟩ := hrel
          by_cases hjn : j < its.length
          · have hjx : j < xs.length := by rw [HX.out]; exact hjn
            obtain ⟨ga', ca', hv', hg1, hg2, hg3, hg4, hg5, hg6⟩ := r10.pos (by omega)
            simp only [Value.slice.injEq, Option.some.injEq, Addr.mk.injEq, and_true, true_and] at hv'
            obtain ⟨rfl, rfl⟩ := hv'
            have cj := (hg5 j (by omega)).trans (intsL_get xs j hjx)
            have hjI : (j : Int) < (its.length : Int) := by omega
            have lj := HO.out.live (List.getElem_mem hjx)
            have hget := getInF wr o10 1 p 1024 its.length [] (upd it5 a x) S xs[j] F10 lj
            unfold itemV at hget
            have HR : Hid (∀ w11, Step (fun _ => False) wr o10 w11 o10 → ∀ yj : It, upd it5 a x xs[j] = yj → InS w p its.length S xs (.slice (some ⟨ga, 0, none⟩) its.length ca) ys (.slice (some ⟨gy, 0, none⟩) ys.length cy) (upd it5 a x) bx x (.slice (some ⟨go, 0, none⟩) its.length its.length) (j + 1) ((((w11.setCell ⟨go, j * 3, none⟩ (.int .i64 yj.v)).setCell ⟨go, j * 3 + 1, none⟩ (.bool yj.c)).setCell ⟨go, j * 3 + 2, none⟩ (.int .i64 yj.f)).alloc (.cells #[.int .i64 yj.v, .bool yj.c, .int .i64 yj.f] 36))) := fun w11 s11 yj hyj => by
              have ro12 := ro10.step s11 id
              obtain ⟨g', c', hv', hl1, _⟩ := ro12.pos (by omega)
              simp only [Value.slice.injEq, Option.some.injEq, Addr.mk.injEq, and_true, true_and] at hv'
              obtain ⟨rfl, _⟩ := hv'
              have ro13 := ro12.put3 (j * 3) (.int .i64 yj.v) (.bool yj.c) (.int .i64 yj.f)
              have e := ownL_set (it := upd it5 a x) hjx
              rw [hyj] at e
              rw [e] at ro13
              have s13 : Step (fun k => k = 6101) w11 o10 (((w11.setCell ⟨go, j * 3, none⟩ (.int .i64 yj.v)).setCell ⟨go, j * 3 + 1, none⟩ (.bool yj.c)).setCell ⟨go, j * 3 + 2, none⟩ (.int .i64 yj.f)) o10 := (((Step.refl _ _ _).setCell _ _ hl1).setCell _ _ hl1).setCell _ _ hl1
              have n14 := newStep (fun _ => False) (((w11.setCell ⟨go, j * 3, none⟩ (.int .i64 yj.v)).setCell ⟨go, j * 3 + 1, none⟩ (.bool yj.c)).setCell ⟨go, j * 3 + 2, none⟩ (.int .i64 yj.f)) o10 6102 (.cells #[.int .i64 yj.v, .bool yj.c, .int .i64 yj.f] 36)
              exact ⟨_, ((F10.quiet s11).step s13 (fun k hk e => nF 6101 (by omega) (e ▸ hk))).quiet n14, ((r10.step s11 id).step s13 (by omega)).step n14 id, ((ry10.step s11 id).step s13 (by omega)).step n14 id, ((B10.step s11 id).step s13 (by omega)).step n14 id, ro13.step n14 id, ((t10.trans s11.pos0).trans (s13.mono (J := Pos) fun k hk => by unfold Pos; omega)).trans n14.pos0⟩
            have HOC : Hid (∀ w11, Step (fun _ => False) wr o10 w11 o10 → (∃ c0 c1 c2, w11.cell? ⟨go, j * 3, none⟩ = some c0 ∧ w11.cell? ⟨go, j * 3 + 1, none⟩ = some c1 ∧ w11.cell? ⟨go, j * 3 + 2, none⟩ = some c2) ∧ (∀ i, w11.frozen? ⟨go, i, none⟩ = false) ∧ w11.cell? ⟨bx, 0, none⟩ = some (.int .i64 x.v) ∧ w11.cell? ⟨bx, 1, none⟩ = some (.bool x.c) ∧ w11.cell? ⟨bx, 2, none⟩ = some (.int .i64 x.f) ∧ bx < w11.heap.size ∧ go < w11.heap.size) := fun w11 s11 => by
              obtain ⟨g', c', hv', hl1, hl2, hl3, hl4, hl5, hl6⟩ := (ro10.step s11 id).pos (by omega)
              simp only [Value.slice.injEq, Option.some.injEq, Addr.mk.injEq, and_true, true_and] at hv'
              obtain ⟨rfl, _⟩ := hv'
              obtain ⟨i0, i1, i2⟩ := itsL_get (ownL xs (upd it5 a x) j) j (by rw [ownL_len (by omega)]; exact hjx)
              have b := (B10.step s11 id).cells3
              exact ⟨⟨_, _, _, (hl5 _ (by omega)).trans i0, (hl5 _ (by omega)).trans i1, (hl5 _ (by omega)).trans i2⟩, hl6, b.1, b.2.1, b.2.2.1, (B10.step s11 id).lt, hl4⟩
            clear hg5 hg6 F10 r10 ry10 B10 ro10 t10 lj
            by_cases hjr : j = r
            · subst hjr
              have hyx : upd it5 a x xs[j] = x := by rw [← HA.out]; exact upd_same ..
              rw [hyx] at hget
              have HYX : Hid (upd it5 a x xs[j] = x) := hyx
              clear hyx
              go_wp2_with fail
              refine hget.mono ?_
              rintro e w11 ⟨rfl, s11⟩
              have R := HR.out w11 s11 x HYX.out
              obtain ⟨⟨u0, u1, u2, v0, v1, v2⟩, vf, x0, x1, x2, xl, gl⟩ := HOC.out w11 s11
              have hne1 : bx ≠ w11.heap.size := by omega
              have hne2 : go ≠ w11.heap.size := by omega
              have hne3 := hne1.symm
              have hne4 := hne2.symm
              clear hget HR HOC cj s11
              go_wp2
              go_roundg (its.length - (j + 1))
              case measure => omega
              case rel => exact ⟨j + 1, by go_num, by omega, rfl, R⟩
            · have hjrB : ((j : Int) == (r : Int)) = false := by simp only [beq_eq_false_iff_ne, ne_eq]; omega
              obtain ⟨yj, hyj⟩ : ∃ yj, upd it5 a x xs[j] = yj := ⟨_, rfl⟩
              rw [hyj] at hget
              have HYX : Hid (upd it5 a x xs[j] = yj) := hyj
              clear hyj
              go_wp2_with fail
              refine hget.mono ?_
              rintro e w11 ⟨rfl, s11⟩
              have R := HR.out w11 s11 yj HYX.out
              obtain ⟨⟨u0, u1, u2, v0, v1, v2⟩, vf, x0, x1, x2, xl, gl⟩ := HOC.out w11 s11
              have hne1 : bx ≠ w11.heap.size := by omega
              have hne2 : go ≠ w11.heap.size := by omega
              have hne3 := hne1.symm
              have hne4 := hne2.symm
              clear hget HR HOC cj s11
              go_wp2
              go_roundg (its.length - (j + 1))
              case measure => omega
              case rel => exact ⟨j + 1, by go_num, by omega, rfl, R⟩
          · obtain rfl : j = its.length := by omega
            have hro := ro10
            rw [← HX.out, ownL_all, HX.out] at hro
            have vo := hro.vwI (by rw [List.length_map, HX.out]) (by omega)
            have va : Vw wr o10 2002 (.slice (some ⟨ga, 0, none⟩) its.length ca) xs := by
              have := r10
              rw [← HX.out] at this ⊢
              exact this.vw
            have hpc := piece_any wr o10 2004 2002 6101 p 1024 its.length [] (upd it5 a x) S xs x.f _ _ F10 (by rw [HX.out]; omega) hmx.2.2 (fun k hk => HO.out.live hk) (fun k hk => HO.out.seq k hk) va vo (fun h => h.elim (nF _ (by omega)) (by omega)) (fun h => h.elim (nF _ (by omega)) (by omega)) (nF _ (by omega)) (by omega)
            obtain ⟨b0, b1, b2, bf⟩ := B10.cells3
            have nPL : ∀ k, (k = 2002 ∨ k = 2003) → ¬ PL 2004 k := fun k hk h => h.elim (nF _ (by omega)) (by omega)
            have HT : Hid (Step Pos w o0 wr o10) := t10
            clear hro vo va F10 B10 ro10 t10
            go_wp2_with fail
            refine hpc.mono ?_
            rintro e w12 ⟨rfl, o12, F12, s12⟩
            have G : SetsS w p its.length S xs (.slice (some ⟨ga, 0, none⟩) its.length ca) ys (.slice (some ⟨gy, 0, none⟩) ys.length cy) w12 := ⟨o12, _, F12, r10.step s12 (nPL _ (.inl rfl)), ry10.step s12 (nPL _ (.inr rfl)), HT.out.trans (s12.mono (J := Pos) fun k hk => by unfold Pos; rcases hk with hk | hk | hk | hk; have := hk.1; omega; omega; omega; omega)⟩
            clear hpc F12 s12 r10 ry10 HT b0 b1 b2 bf
            go_wp2
            rw [HLY.out]
            go_roundg (60 - (k + 1))
            case measure => omega
            case rel => exact ⟨k + 1, by go_num, by omega, by omega, rfl, G⟩
    · have hend : (k : Int) < (lenc : Int) → ¬ (k : Int) < 60 := by omega
      have HB := t5.old
      clear hga5 hgy5 hga6 hgy6 r5 ry5 F5 t5
      by_cases hl1 : k < lenc
      · have hl2 : ¬ (k : Int) < 60 := by omega
        go_wp2
        go_ret
        exact ⟨rfl, HB⟩
      · go_wp2
        go_ret
        exact ⟨rfl, HB⟩

end Go.Proofs.Ytijgilkpmkgbjaa
