/- The walk of the law TourStands. -/
import Derived.Test.YtnpfagpgploolaaStandsB
import Derived.Test.YtnpfagpgploolaaSetV
import Derived.Test.YtnpfagpgploolaaOpsArg
import Derived.Deep.RegionLaw
namespace Go.Proofs.Ytnpfagpgploolaa
open Go.ChangeShapes Go.WideShapes Go.ChangeAt Go.RowKit Go.Maps
set_option linter.unusedVariables false

/-- 'make' in a region that draws: a new row under a label. -/
theorem upon_make {P : Program} {w : World} {op : Oper} {a : Act} {K : Act → World → Prop} {Q : Exit → Act → World → Prop} (t : TypeId)
    (e : TypeId) (i : TypeInfo) (z : Value) (size : Nat) (h1 : P.underlying t = some (.slice e)) (h2 : P.info? e = some i) (h3 : i.zero = some z) (h4 : i.size = size)
    (n : Nat) (b2 : i.bytes * n ≤ 281474976710656) (b3 : n ≤ maxLen) (lb : Nat)
    (h : ∀ w', (∀ o, Row w' (newLab w o lb) lb e size (.slice (some ⟨w.heap.size, 0, none⟩) n n) n (madeCells z.cells (n * size)).toList ∧ Step (fun _ => False) w o w' (newLab w o lb)) → K (a.put op.dst (.slice (some ⟨w.heap.size, 0, none⟩) n n)) w') :
    Oper.upon P op a K Q ((Sem.run P (Instr.makeSlice t (.int .i64 n) (.int .i64 n)) w).andThen fun a w' => Result.ok (Next.value a) w') := by
  obtain ⟨w', hrun, r1, r2⟩ := run_make_full (P := P) w w.heap.size t e i z size h1 h2 h3 h4 .i64 .i64 n b2 b3 (Nat.le_refl _)
  rw [hrun]
  refine h w' (fun o => ⟨⟨ownsRow_base0 r1, fun k hk => ?_⟩, ⟨r2.os, r2.tape, r2.output, r2.size, fun k hk => newLab_old hk, fun k hk _ => r2.block k hk (by simp)⟩⟩)
  simp [Value.ownBlock] at hk; subst hk; exact newLab_new (Nat.le_refl _)
theorem made_ints (n : Nat) : (madeCells (Value.int .i64 0).cells n).toList = intsZ (fun _ => 0) n := by
  apply List.ext_getElem
  · simp [madeCells, intsZ]
  · intro i h1 h2
    simp [madeCells, intsZ, Value.cells, Nat.mod_one]
theorem intsZ_set (val : Nat → Int) {n u : Nat} (x : Int) (h : u < n) : (intsZ val n).set u (.int .i64 x) = intsZ (fun w => if w = u then x else val w) n := by
  apply List.ext_getElem
  · simp [intsZ]
  · intro i h1 h2
    simp only [intsZ, List.getElem_map, List.getElem_range, List.getElem_set]
    by_cases e : u = i
    · subst e; simp
    · rw [if_neg e, if_neg (fun x => e x.symm)]
theorem boolsL_put (b : Nat → Bool) {n u : Nat} (x : Bool) (h : u < n) : (boolsL b n).set u (.bool x) = boolsL (fun w => if w = u then x else b w) n := by
  apply List.ext_getElem
  · simp [boolsL]
  · intro i h1 h2
    simp only [boolsL, List.getElem_map, List.getElem_range, List.getElem_set]
    by_cases e : u = i
    · subst e; simp
    · rw [if_neg e, if_neg (fun x => e x.symm)]
theorem BkR.setv {w : World} {o : Nat → Nat} {pb n : Nat} {val : Nat → Int} {bn : Nat → Bool} {l : List (Nat × Nat)} {la : Nat} {vl : Value} {gv cv gb cb : Nat} (h : BkR w o pb n val bn l la vl gv cv gb cb) (hla : la = 5001 ∨ la = 5003) {v : Nat} (hv : v < n) (x : Int) :
    BkR (w.setCell ⟨gv, v, none⟩ (.int .i64 x)) o pb n (fun u => if u = v then x else val u) bn l la vl gv cv gb cb ∧ Step (fun k => k = 5021) w o (w.setCell ⟨gv, v, none⟩ (.int .i64 x)) o := by
  have hl : o gv = 5021 := h.vals.2 gv rfl
  have f : Step (fun k => k = 5021) w o (w.setCell ⟨gv, v, none⟩ (.int .i64 x)) o := (Step.refl _ _ _).setCell _ _ hl
  have r := h.vals.store v (.int .i64 x)
  rw [intsZ_set val x hv] at r
  exact ⟨⟨h.blk.step f (by omega), r, h.ons.step f (by omega), Row.step h.edges f (by omega)⟩, f⟩
theorem BkR.seto {w : World} {o : Nat → Nat} {pb n : Nat} {val : Nat → Int} {bn : Nat → Bool} {l : List (Nat × Nat)} {la : Nat} {vl : Value} {gv cv gb cb : Nat} (h : BkR w o pb n val bn l la vl gv cv gb cb) (hla : la = 5001 ∨ la = 5003) {v : Nat} (hv : v < n) (x : Bool) :
    BkR (w.setCell ⟨gb, v, none⟩ (.bool x)) o pb n val (fun u => if u = v then x else bn u) l la vl gv cv gb cb ∧ Step (fun k => k = 5022) w o (w.setCell ⟨gb, v, none⟩ (.bool x)) o := by
  have hl : o gb = 5022 := h.ons.2 gb rfl
  have f : Step (fun k => k = 5022) w o (w.setCell ⟨gb, v, none⟩ (.bool x)) o := (Step.refl _ _ _).setCell _ _ hl
  have r := h.ons.store v (.bool x)
  rw [boolsL_put bn x hv] at r
  exact ⟨⟨h.blk.step f (by omega), h.vals.step f (by omega), r, Row.step h.edges f (by omega)⟩, f⟩
theorem BkR.setl {w w' : World} {o o' : Nat → Nat} {pb n : Nat} {val : Nat → Int} {bn : Nat → Bool} {l l' : List (Nat × Nat)} {la lb : Nat} {vl v' : Value} {gv cv gb cb : Nat} (h : BkR w o pb n val bn l la vl gv cv gb cb) (hlb : lb = 5001 ∨ lb = 5003) (s : Step (fun k => k = lb) w o w' o') (r : RowP w' o' lb v' l') :
    BkR (w'.setCell ⟨pb, 3, none⟩ v') o' pb n val bn l' lb v' gv cv gb cb ∧ Step (fun k => k = 5020) w' o' (w'.setCell ⟨pb, 3, none⟩ v') o' := by
  have b := h.blk.step s (by omega)
  have f : Step (fun k => k = 5020) w' o' (w'.setCell ⟨pb, 3, none⟩ v') o' := (Step.refl _ _ _).setCell _ _ b.2
  exact ⟨⟨b.set 3 v', (h.vals.step s (by omega)).step f (by omega), (h.ons.step s (by omega)).step f (by omega), Row.step r f (by omega)⟩, f⟩
theorem walk_first2 {n ms v : Nat} {Y : Nat → List (Nat × Nat)} (E : Eu n ms Y) (hv : v < n) : ∃ R, walkY (setY Y (turnX (Y v) (v, v)) v) = v :: R := by
  rw [E.turn_at hv, if_pos ⟨hv, rfl⟩]
  exact ⟨walkY (behind (Y v) (v, v) ++ ahead (Y v) (v, v)), by simp [turnX, walkY]⟩
theorem Blk.cells6 {w : World} {o : Nat → Nat} {i b : Nat} {a0 a1 a2 a3 a4 a5 : Value} {t : TypeId} (h : Blk w o i b (.cells #[a0, a1, a2, a3, a4, a5] t (0, 0))) :
    w.cell? ⟨b, 0, none⟩ = some a0 ∧ w.cell? ⟨b, 1, none⟩ = some a1 ∧ w.cell? ⟨b, 2, none⟩ = some a2 ∧ w.cell? ⟨b, 3, none⟩ = some a3 ∧ w.cell? ⟨b, 4, none⟩ = some a4 ∧ w.cell? ⟨b, 5, none⟩ = some a5 := by
  refine ⟨?_, ?_, ?_, ?_, ?_, ?_⟩ <;> simp [cell_of_row w b _ _ t (0, 0) h.1]
/-- Where an edge stands. -/
def PlaceS (l : List (Nat × Nat)) (u v : Nat) (r : Int) : Prop := (r = -1 ∧ ∀ s ∈ l, s ≠ (u, v) ∧ s ≠ (v, u)) ∨ ∃ k, ∃ (hk : k < l.length), r = (k : Int) ∧ (l[k] = (u, v) ∨ l[k] = (v, u))
theorem PlaceS.neg {l : List (Nat × Nat)} {u v : Nat} {r : Int} (h : PlaceS l u v r) (hr : r < 0) : ∀ s ∈ l, s ≠ (u, v) ∧ s ≠ (v, u) := by
  rcases h with h | ⟨k, hk, rfl, _⟩
  · exact h.2
  · omega
theorem PlaceS.pos {l : List (Nat × Nat)} {u v : Nat} {r : Int} (h : PlaceS l u v r) (hr : 0 ≤ r) : (u, v) ∈ l ∨ (v, u) ∈ l := by
  rcases h with ⟨rfl, _⟩ | ⟨k, hk, rfl, he⟩
  · omega
  · rcases he with e | e
    · exact .inl (e ▸ List.getElem_mem hk)
    · exact .inr (e ▸ List.getElem_mem hk)
theorem place_s (w : World) (o : Nat → Nat) (la u v : Nat) (vl : Value) (l : List (Nat × Nat)) (hv : RowP w o la vl l) (hl : l.length ≤ 1000) :
    Calls Try.prog 15 #[vl, .int .i64 u, .int .i64 v] w fun e w' => ∃ r : Int, e = .returned (.int .i64 r) ∧ Step (fun _ => False) w o w' o ∧ PlaceS l u v r := by
  refine (place_l w o la u v vl l hv.vw hl).mono ?_
  rintro e w' ⟨r, rfl, ⟨m, rfl⟩, h⟩
  exact ⟨r, rfl, (Step.refl _ _ _).drewN m, h⟩
theorem pair_cellsS {w : World} {o : Nat → Nat} {i b : Nat} {u v : Nat} {t : TypeId} (h : Blk w o i b (.cells #[.int .i64 u, .int .i64 v] t (0, 0))) : ∀ j x, (pairsL [(u, v)])[j]? = some x → w.cell? ((⟨b, 0, none⟩ : Addr).add j) = some x := fun j x hj => by
  obtain ⟨x0, x1, xf⟩ := h.cells2f
  match j with
  | 0 => simp [pairsL] at hj; rw [← hj]; exact x0
  | 1 => simp [pairsL] at hj; rw [← hj]; exact x1
  | j + 2 => simp [pairsL] at hj
theorem tdiv3_bd {x : Int} (h1 : -9223372036854775808 ≤ x) (h2 : x ≤ 9223372036854775807) : -9223372036854775808 ≤ x.tdiv 3 ∧ x.tdiv 3 ≤ 9223372036854775807 := by
  rcases Int.le_total 0 x with h | h
  · rw [Int.tdiv_eq_ediv_of_nonneg h]; omega
  · have : x.tdiv 3 = -((-x) / 3) := by rw [← Int.tdiv_eq_ediv_of_nonneg (show (0 : Int) ≤ -x by omega), Int.neg_tdiv, Int.neg_neg]
    rw [this]; omega
/-- Which one a raw number speaks of. -/
def pkN (c : Int) (n : Nat) : Nat := if c < 0 then ((-(c + 1)) % (n : Int)).toNat else (c % (n : Int)).toNat
theorem pkN_lt (c : Int) (n : Nat) (hn : 0 < n) : pkN c n < n := by
  unfold pkN
  split
  · have e2 := Int.emod_nonneg (-(c + 1)) (show (n : Int) ≠ 0 by omega)
    have e3 := Int.emod_lt_of_pos (-(c + 1)) (show (0 : Int) < n by omega)
    omega
  · have e2 := Int.emod_nonneg c (show (n : Int) ≠ 0 by omega)
    have e3 := Int.emod_lt_of_pos c (show (0 : Int) < n by omega)
    omega
theorem pick_is (c : Int) (n : Nat) (w : World) (h1 : -9223372036854775808 ≤ c) (h2 : c ≤ 9223372036854775807) (hn : 0 < n) (hn2 : n ≤ 9223372036854775807) :
    Calls Try.prog 12 #[.int .i64 c, .int .i64 n] w fun e w' => e = .returned (.int .i64 (pkN c n)) ∧ w' = w := by
  have hz : ((n : Int) == 0) = false := by simp only [beq_eq_false_iff_ne, ne_eq]; omega
  have hm1 : ((n : Int) == -1) = false := by simp only [beq_eq_false_iff_ne, ne_eq]; omega
  by_cases hc : c < 0
  · have hp : pkN c n = ((-(c + 1)) % (n : Int)).toNat := by unfold pkN; rw [if_pos hc]
    rw [hp]
    clear hp
    go_enter Try.func12, Try.ntmps12
    go_wp2
    go_ret
    have e1 : (-((c + 1).tmod n) : Int) = (-(c + 1)) % n := by rw [← Int.neg_tmod, Int.tmod_eq_emod_of_nonneg (by omega)]
    have e2 := Int.emod_nonneg (-(c + 1)) (show (n : Int) ≠ 0 by omega)
    have e3 := Int.emod_lt_of_pos (-(c + 1)) (show (0 : Int) < n by omega)
    exact ⟨ret_int (by omega), rfl⟩
  · have hp : pkN c n = (c % (n : Int)).toNat := by unfold pkN; rw [if_neg hc]
    rw [hp]
    clear hp
    go_enter Try.func12, Try.ntmps12
    go_wp2
    go_ret
    have e1 : (c.tmod n : Int) = c % n := Int.tmod_eq_emod_of_nonneg (by omega)
    have e2 := Int.emod_nonneg c (show (n : Int) ≠ 0 by omega)
    have e3 := Int.emod_lt_of_pos c (show (0 : Int) < n by omega)
    exact ⟨ret_int (by omega), rfl⟩
/-- The state of the loop. -/
def SdS (w : World) (p n pb j : Nat) (wr : World) : Prop :=
  ∃ o' Y val mk bn l la vl gv cv gb cb, Tt wr o' 1 p n Y (Dm val mk) ∧ BkR wr o' pb n val bn l la vl gv cv gb cb ∧ BookM n Y val mk bn l j ∧ (la = 5001 ∨ la = 5003) ∧ Step Pos w o0 wr o'

set_option maxRecDepth 100000 in
set_option maxHeartbeats 40000000 in
theorem stands_walk (w : World) (cn : Int) (a1 : Option Addr) (len1 cap1 : Nat) (f : Nat → OpT) (ha1 : ArgOps w o0 a1 len1 f) (h1 : len1 ≤ 9223372036854775807) (hcn : i64 cn) :
    Calls Try.prog 4 #[.int .i64 cn, .slice a1 len1 cap1] w fun e w' => e = .returned (.bool true) ∧ Below w.heap.size w w' := by
  have npos : ¬ Pos 0 := by unfold Pos; omega
  obtain ⟨ii, hii, hzi0, hzi1, hzi2⟩ := info_parts infoPair
  obtain ⟨ji, hji, hzj0, hzj1, hzj2⟩ := info_parts infoInt
  obtain ⟨ki, hki, hzk0, hzk1, hzk2⟩ := info_parts infoBool
  go_enter Try.func4, Try.ntmps4
  go_wp2_with fail
  refine (awake_any w).mono ?_
  rintro e w1 ⟨rfl, hb1⟩
  have t1 : Step Pos w o0 w1 o0 := Step.ofBelow o0 hb1
  have hpn := pick_any cn 64 w1 hcn.1 hcn.2 (by omega) (by omega)
  go_wp2_with fail
  refine hpn.mono ?_
  rintro e w1' ⟨n0, hn0, rfl, hw1⟩
  obtain rfl : w1 = w1' := hw1.symm
  clear hpn hb1
  obtain ⟨n, hn⟩ : ∃ n, n = 1 + n0 := ⟨_, rfl⟩
  have hnt := new_t w1 o0 1 n (by omega) (by omega)
  have hn1 : 1 ≤ n := by omega
  have hn2 : n ≤ 64 := by omega
  have en : Hid ((1 + (n0 : Int)) = (n : Int)) := by show _ = _; omega
  clear hn
  go_wp2_with fail
  rw [en.out]
  clear en hn0
  refine hnt.mono ?_
  rintro e w2 ⟨p, rfl, o2, T2, s2⟩
  rw [Dm_new] at T2
  have t2 := t1.trans (s2.posT (by omega))
  clear hnt s2 t1
  have b1 : ji.bytes * n ≤ 281474976710656 := by rw [hzj2]; omega
  have b2 : ki.bytes * n ≤ 281474976710656 := by rw [hzk2]; omega
  have b3 : n ≤ maxLen := by unfold maxLen; omega
  go_upto_region 6 with fail
  go_cut [8] (fun vb wx => ∃ pb, vb = .pointer (some ⟨pb, 0, none⟩) ∧ SdS w p n pb 0 wx)
  case first =>
    go_region_with (first | (refine upon_make 41 3 ji (.int .i64 0) 1 Try.underlying41 hji hzj0 hzj1 n b1 b3 5021 ?_; intro wv hv) | (refine upon_make 42 4 ki (.bool false) 1 Try.underlying42 hki hzk0 hzk1 n b2 b3 5022 ?_; intro wb hb))
    · obtain ⟨rv, sv⟩ := hv o2
      obtain ⟨rb, sb⟩ := hb (newLab w2.drew o2 5021)
      have sd : Step (fun _ => False) w2 o2 w2.drew o2 := (Step.refl _ _ _).drew
      have n5 := newStep (fun _ => False) wb (newLab wv (newLab w2.drew o2 5021) 5022) 5020 (.cells #[.int .i64 n, .slice (some ⟨w2.drew.heap.size, 0, none⟩) n n, .slice (some ⟨wv.heap.size, 0, none⟩) n n, .slice none 0 0] 45)
      have B5 : Blk (wb.alloc (.cells #[.int .i64 n, .slice (some ⟨w2.drew.heap.size, 0, none⟩) n n, .slice (some ⟨wv.heap.size, 0, none⟩) n n, .slice none 0 0] 45)) (newLab wb (newLab wv (newLab w2.drew o2 5021) 5022) 5020) 5020 wb.heap.size (.cells #[.int .i64 n, .slice (some ⟨w2.drew.heap.size, 0, none⟩) n n, .slice (some ⟨wv.heap.size, 0, none⟩) n n, .slice none 0 0] 45 (0, 0)) := ⟨heap_alloc_new _ _, newLab_new (Nat.le_refl _)⟩
      have sa := sd.trans (sv.trans (sb.trans n5))
      have qv := rv.step (sb.trans n5) id
      have qb := rb.step n5 id
      have RR : SdS w p n wb.heap.size 0 (wb.alloc (.cells #[.int .i64 n, .slice (some ⟨w2.drew.heap.size, 0, none⟩) n n, .slice (some ⟨wv.heap.size, 0, none⟩) n n, .slice none 0 0] 45)) := by
        refine ⟨_, _, _, _, fun _ => false, [], 5001, .slice none 0 0, w2.drew.heap.size, n, wv.heap.size, n, T2.quiet sa, ⟨B5, ?_, ?_, Row.nil _ _ _ _ _⟩, BookM.new n, .inl rfl, t2.trans sa.pos0⟩
        · rw [← made_ints]; first | exact qv | (rw [Nat.mul_one] at qv; exact qv) | simpa using qv
        · rw [← made_bools]; first | exact qb | (rw [Nat.mul_one] at qb; exact qb) | simpa using qb
      clear hv hb rv sv rb sb sd n5 B5 sa qv qb T2 t2
      go_wp2
      go_meet
      exact ⟨_, rfl, RR⟩
    · obtain ⟨rb, sb⟩ := hb o2
      obtain ⟨rv, sv⟩ := hv (newLab w2.drew o2 5022)
      have sd : Step (fun _ => False) w2 o2 w2.drew o2 := (Step.refl _ _ _).drew
      have n5 := newStep (fun _ => False) wv (newLab wb (newLab w2.drew o2 5022) 5021) 5020 (.cells #[.int .i64 n, .slice (some ⟨wb.heap.size, 0, none⟩) n n, .slice (some ⟨w2.drew.heap.size, 0, none⟩) n n, .slice none 0 0] 45)
      have B5 : Blk (wv.alloc (.cells #[.int .i64 n, .slice (some ⟨wb.heap.size, 0, none⟩) n n, .slice (some ⟨w2.drew.heap.size, 0, none⟩) n n, .slice none 0 0] 45)) (newLab wv (newLab wb (newLab w2.drew o2 5022) 5021) 5020) 5020 wv.heap.size (.cells #[.int .i64 n, .slice (some ⟨wb.heap.size, 0, none⟩) n n, .slice (some ⟨w2.drew.heap.size, 0, none⟩) n n, .slice none 0 0] 45 (0, 0)) := ⟨heap_alloc_new _ _, newLab_new (Nat.le_refl _)⟩
      have sa := sd.trans (sb.trans (sv.trans n5))
      have qv := rv.step n5 id
      have qb := rb.step (sv.trans n5) id
      have RR : SdS w p n wv.heap.size 0 (wv.alloc (.cells #[.int .i64 n, .slice (some ⟨wb.heap.size, 0, none⟩) n n, .slice (some ⟨w2.drew.heap.size, 0, none⟩) n n, .slice none 0 0] 45)) := by
        refine ⟨_, _, _, _, fun _ => false, [], 5001, .slice none 0 0, wb.heap.size, n, w2.drew.heap.size, n, T2.quiet sa, ⟨B5, ?_, ?_, Row.nil _ _ _ _ _⟩, BookM.new n, .inl rfl, t2.trans sa.pos0⟩
        · rw [← made_ints]; first | exact qv | (rw [Nat.mul_one] at qv; exact qv) | simpa using qv
        · rw [← made_bools]; first | exact qb | (rw [Nat.mul_one] at qb; exact qb) | simpa using qb
      clear hv hb rv sv rb sb sd n5 B5 sa qv qb T2 t2
      go_wp2
      go_meet
      exact ⟨_, rfl, RR⟩
  case rest =>
  obtain ⟨pb, rfl, START⟩ := hcut
  clear T2 t2 b1 b2 b3
  go_upto_block 0 with fail
  go_cut [] (fun wx => ∃ j : Nat, j ≤ 150 ∧ SdS w p n pb j wx)
  case first =>
    go_wp2_with fail
    go_loopg [9] 151 (fun gh i wr => ∃ j : Nat, i = .int .i64 (j : Nat) ∧ j ≤ len1 ∧ j ≤ 150 ∧ gh = 151 - j ∧ SdS w p n pb j wr)
    case atStart => exact ⟨0, by go_num, by omega, by omega, by omega, START⟩
    case round =>
      clear START
      obtain ⟨j, rfl, hj, hj2, rfl, o3, Y, val, mk, bn, l, la, vl, gv, cv, gb, cb, T3, K3, B3, hla, t3⟩ := hrel
      by_cases hlt : j < len1 ∧ j < 150
      · obtain ⟨hlt, hlt2⟩ := hlt
        obtain ⟨b, off, rfl, hbl, hob, ⟨c0, c1, c2, c3, c4, c5⟩, ⟨ik1, ik2⟩, ⟨iu1, iu2⟩, ⟨iv1, iv2⟩, ⟨ix1, ix2⟩⟩ := ha1.step t3 npos j hlt
        generalize f j = q at c0 c1 c2 c3 c4 c5 ik1 ik2 iu1 iu2 iv1 iv2 ix1 ix2
        obtain ⟨kd, cu, cw, cx, bo, bt⟩ := q
        simp only at c0 c1 c2 c3 c4 c5 ik1 ik2 iu1 iu2 iv1 iv2 ix1 ix2
        have hjl : (j : Int) < (len1 : Int) := by omega
        obtain ⟨ms, E3⟩ := T3.eu
        have hlen := B3.len
        obtain ⟨ao, cap, rfl⟩ := K3.edges.form
        have n1 := newStep (fun _ => False) wr o3 5010 (.cells #[.int .i64 kd, .int .i64 cu, .int .i64 cw, .int .i64 cx, .bool bo, .bool bt] 36)
        have B1 : Blk (wr.alloc (.cells #[.int .i64 kd, .int .i64 cu, .int .i64 cw, .int .i64 cx, .bool bo, .bool bt] 36)) (newLab wr o3 5010) 5010 wr.heap.size (.cells #[.int .i64 kd, .int .i64 cu, .int .i64 cw, .int .i64 cx, .bool bo, .bool bt] 36 (0, 0)) := ⟨heap_alloc_new wr _, newLab_new (Nat.le_refl _)⟩
        have T4 := T3.quiet n1
        have K4 := K3.step n1 id id id id
        have t4 := t3.trans n1.pos0
        clear T3 K3 t3 n1 ha1
        go_wp2_with fail
        obtain ⟨w4, hw4⟩ : ∃ w4, w4 = wr.alloc (.cells #[.int .i64 kd, .int .i64 cu, .int .i64 cw, .int .i64 cx, .bool bo, .bool bt] 36) := ⟨_, rfl⟩
        obtain ⟨o4, ho4⟩ : ∃ o4, o4 = newLab wr o3 5010 := ⟨_, rfl⟩
        rw [← hw4]
        rw [← hw4, ← ho4] at T4 K4 t4 B1
        clear hw4 ho4 c0 c1 c2 c3 c4 c5
        generalize wr.heap.size = po at *
        obtain ⟨c0, c1, c2, c3, c4, c5⟩ := B1.cells6
        have hpu := pick_any cu n w4 iu1 iu2 (by omega) (by omega)
        have hpv := pick_any cw n w4 iv1 iv2 (by omega) (by omega)
        have hpk := pick_any kd 6 w4 ik1 ik2 (by omega) (by omega)
        refine hpu.mono ?_
        rintro e w5 ⟨u, hu, rfl, hw5⟩
        obtain rfl : w4 = w5 := hw5.symm
        clear hpu
        go_wp2_with fail
        refine hpv.mono ?_
        rintro e w5 ⟨v, hv, rfl, hw5⟩
        obtain rfl : w4 = w5 := hw5.symm
        clear hpv
        go_wp2_with fail
        refine hpk.mono ?_
        rintro e w5 ⟨r, hr, rfl, hw5⟩
        obtain rfl : w4 = w5 := hw5.symm
        clear hpk
        have huI : (u : Int) < (n : Int) := by omega
        have hvI : (v : Int) < (n : Int) := by omega
        have hrr : r = 0 ∨ r = 1 ∨ r = 2 ∨ r = 3 ∨ r = 4 ∨ r = 5 := by omega
        clear hr
        rcases hrr with rfl | rfl | rfl | rfl | rfl | rfl
        · as_aux_lemma =>
            have hjo := joined_any w4 o4 5005 la n u _ l (RowP.vw K4.edges) (by omega) hu (by omega) (by omega) (fun s hs => ⟨(B3.told.lt s hs).1, (B3.told.lt s hs).2.1⟩)
            obtain ⟨k0, k1, k2, k3, kf⟩ := K4.blk.cells4
            go_wp2_with fail
            refine hjo.mono ?_
            rintro e w5 ⟨g, ci, bb, o5, rfl, r5, HLe, s5⟩
            have T5 := T4.step s5 (fun k hk e => TL.no (by omega) hk)
            have K5 := K4.step s5 (by omega) (by omega) (by omega) (by omega)
            have t5 := t4.trans (s5.mono (J := Pos) fun k hk => by unfold Pos; omega)
            have hbv : bb v = true ↔ Y v = Y u := B3.told.joined E3 hu HLe hv
            clear hjo HLe s5 T4 K4 t4 B1 c0 c1 c2 c3 c4 c5 k0 k1 k2 k3 kf
            obtain ⟨g1, cc1, hv1, hg1, hg2, hg3, hg4, hg5, hg6⟩ := r5.pos (by omega)
            simp only [Value.slice.injEq, Option.some.injEq, Addr.mk.injEq, and_true, true_and] at hv1
            obtain ⟨rfl, rfl⟩ := hv1
            have yi := (hg5 _ (by omega)).trans (boolsL_get bb hv)
            have sd : Step (fun _ => False) w5 o5 w5.drew o5 := (Step.refl _ _ _).drew
            unfold maxLen at hg3
            clear hg5 hg6 r5
            by_cases he : Y u = Y v
            · have hbt : bb v = true := hbv.2 he.symm
              rw [hbt] at yi
              have hlk := link_same_t w5.drew o5 1 p n Y _ u v (T5.quiet sd) hu hv he
              have HK : Hid (∀ wx ox, Step (TL 1) w5.drew o5 wx ox → wx.cell? ⟨g, v, none⟩ = some (.bool true)) := fun wx ox s => (s.cell hg4 (by rw [hg1]; exact TL.no (by omega)) v).trans yi
              clear hbt hbv
              go_wp2_with fail
              go_region_held3 (fun wx => wx.cell? ⟨g, v, none⟩ = some (.bool true)) (first | (with_reducible exact kz) | (with_reducible exact yi) | go_keep) ((go_at_call 14; refine hlk.mono ?_; rintro e w6 ⟨rfl, o6, T6, s6⟩; have kz := HK.out _ _ s6))
              all_goals
                have K6 := (K5.step sd id id id id).step s6 (TL.no (by omega)) (TL.no (by omega)) (TL.no (by omega)) (TL.no (by omega))
                have RR : SdS w p n pb (j + 1) w6 := ⟨o6, Y, val, mk, bn, l, la, _, gv, cv, gb, cb, T6, K6, B3.more, hla, (t5.trans sd.pos0).trans (s6.posT (by omega))⟩
                clear hlk HK s6 T6 K6 T5 K5 t5 sd yi
                go_wp2
                go_roundg (151 - (j + 1))
                case measure => omega
                case rel => exact ⟨j + 1, by go_num, by omega, by omega, rfl, RR⟩
            · have hbt : bb v = false := Bool.eq_false_iff.2 (fun h => he (hbv.1 h).symm)
              rw [hbt] at yi
              have hlk := link_t w5.drew o5 1 p n Y _ u v (T5.quiet sd) hu hv he
              rw [Dm_link _ _ _ _ (fun x => he (by rw [x]))] at hlk
              have HK : Hid (∀ wx ox, Step (TL 1) w5.drew o5 wx ox → wx.cell? ⟨g, v, none⟩ = some (.bool false)) := fun wx ox s => (s.cell hg4 (by rw [hg1]; exact TL.no (by omega)) v).trans yi
              clear hbt hbv
              go_wp2_with fail
              go_region_held3 (fun wx => wx.cell? ⟨g, v, none⟩ = some (.bool false)) (first | (with_reducible exact kz) | (with_reducible exact yi) | go_keep) ((go_at_call 14; refine hlk.mono ?_; rintro e w6 ⟨rfl, o6, T6, s6⟩; have kz := HK.out _ _ s6))
              all_goals
                have K6 := (K5.step sd id id id id).step s6 (TL.no (by omega)) (TL.no (by omega)) (TL.no (by omega)) (TL.no (by omega))
                have t6 := (t5.trans sd.pos0).trans (s6.posT (by omega))
                have BB := B3.link E3 hu hv he
                have n9 := newStep (fun _ => False) w6 o6 5012 (.cells #[.int .i64 u, .int .i64 v] 49)
                have B9 : Blk (w6.alloc (.cells #[.int .i64 u, .int .i64 v] 49)) (newLab w6 o6 5012) 5012 w6.heap.size (.cells #[.int .i64 u, .int .i64 v] 49 (0, 0)) := ⟨heap_alloc_new w6 _, newLab_new (Nat.le_refl _)⟩
                have T9 := T6.quiet n9
                have K9 := K6.step n9 id id id id
                have t9 := t6.trans n9.pos0
                have hc9 := pair_cellsS B9
                have hl9 : (pairsL [(u, v)]).length = 1 * 2 := rfl
                have b9 : l.length + 1 ≤ maxLen := by unfold maxLen; omega
                have b10 : (l.length + 1) * 16 ≤ 140737488355328 := by omega
                obtain ⟨k0, k1, k2, k3, kf⟩ := K6.blk.cells4
                have R9 := K9.edges
                clear hlk HK s6 T6 K6 t6 T5 K5 t5 sd yi n9 B9
                go_wp2_with (first | (at_builtin; refine wpList_append_lab rfl (.tmp 128) (.tmp 132) 43 rfl 49 ii (.agg #[.int .i64 0, .int .i64 0]) 2 16 Try.underlying43 hii hzi0 hzi1 hzi2 rfl (by decide) (newLab w6 o6 5012) la _ l.length (pairsL l) rfl R9 ⟨w6.heap.size, 0, none⟩ 1 1 (pairsL [(u, v)]) rfl hl9 hc9 (pairsL_one _) (by decide) b9 b10 ?_) | go_in)
                intro g10 c10 w10 o10 r10 s10
                have r11 : RowP w10 o10 la (.slice (some ⟨g10, 0, none⟩) (l.length + 1) c10) (l ++ [(u, v)]) := by show Row _ _ _ _ _ _ _ _; rw [pairsL_append, List.length_append]; exact r10
                obtain ⟨KK, ss⟩ := K9.setl hla s10 r11
                obtain ⟨m0, m1, m2, m3, mf⟩ := (K9.blk.step s10 (by omega)).cells4
                have RR : SdS w p n pb (j + 1) (w10.setCell ⟨pb, 3, none⟩ (.slice (some ⟨g10, 0, none⟩) (l.length + 1) c10)) := ⟨o10, _, val, _, bn, l ++ [(u, v)], la, _, gv, cv, gb, cb, (T9.step s10 (fun k hk e => TL.no (by omega) hk)).step ss (fun k hk e => TL.no (by omega) hk), KK, BB, hla, (t9.trans (s10.mono (J := Pos) fun k hk => by unfold Pos; omega)).trans (ss.mono (J := Pos) fun k hk => by unfold Pos; omega)⟩
                clear r10 r11 s10 T9 K9 R9 t9 hc9 BB KK ss k0 k1 k2 k3 kf
                go_wp2
                go_roundg (151 - (j + 1))
                case measure => omega
                case rel => exact ⟨j + 1, by go_num, by omega, by omega, rfl, RR⟩
        · as_aux_lemma =>
            have hjo := joined_any w4 o4 5005 la n u _ l (RowP.vw K4.edges) (by omega) hu (by omega) (by omega) (fun s hs => ⟨(B3.told.lt s hs).1, (B3.told.lt s hs).2.1⟩)
            obtain ⟨k0, k1, k2, k3, kf⟩ := K4.blk.cells4
            go_wp2_with fail
            refine hjo.mono ?_
            rintro e w5 ⟨g, ci, bb, o5, rfl, r5, HLe, s5⟩
            have T5 := T4.step s5 (fun k hk e => TL.no (by omega) hk)
            have K5 := K4.step s5 (by omega) (by omega) (by omega) (by omega)
            have t5 := t4.trans (s5.mono (J := Pos) fun k hk => by unfold Pos; omega)
            have hbv : bb v = true ↔ Y v = Y u := B3.told.joined E3 hu HLe hv
            clear hjo HLe s5 T4 K4 t4 B1 c0 c1 c2 c3 c4 c5 k0 k1 k2 k3 kf
            obtain ⟨g1, cc1, hv1, hg1, hg2, hg3, hg4, hg5, hg6⟩ := r5.pos (by omega)
            simp only [Value.slice.injEq, Option.some.injEq, Addr.mk.injEq, and_true, true_and] at hv1
            obtain ⟨rfl, rfl⟩ := hv1
            have yi := (hg5 _ (by omega)).trans (boolsL_get bb hv)
            have sd : Step (fun _ => False) w5 o5 w5.drew o5 := (Step.refl _ _ _).drew
            unfold maxLen at hg3
            clear hg5 hg6 r5
            by_cases he : Y u = Y v
            · have hbt : bb v = true := hbv.2 he.symm
              rw [hbt] at yi
              have hlk := link_same_t w5.drew o5 1 p n Y _ u v (T5.quiet sd) hu hv he
              have HK : Hid (∀ wx ox, Step (TL 1) w5.drew o5 wx ox → wx.cell? ⟨g, v, none⟩ = some (.bool true)) := fun wx ox s => (s.cell hg4 (by rw [hg1]; exact TL.no (by omega)) v).trans yi
              clear hbt hbv
              go_wp2_with fail
              go_region_held3 (fun wx => wx.cell? ⟨g, v, none⟩ = some (.bool true)) (first | (with_reducible exact kz) | (with_reducible exact yi) | go_keep) ((go_at_call 14; refine hlk.mono ?_; rintro e w6 ⟨rfl, o6, T6, s6⟩; have kz := HK.out _ _ s6))
              all_goals
                have K6 := (K5.step sd id id id id).step s6 (TL.no (by omega)) (TL.no (by omega)) (TL.no (by omega)) (TL.no (by omega))
                have RR : SdS w p n pb (j + 1) w6 := ⟨o6, Y, val, mk, bn, l, la, _, gv, cv, gb, cb, T6, K6, B3.more, hla, (t5.trans sd.pos0).trans (s6.posT (by omega))⟩
                clear hlk HK s6 T6 K6 T5 K5 t5 sd yi
                go_wp2
                go_roundg (151 - (j + 1))
                case measure => omega
                case rel => exact ⟨j + 1, by go_num, by omega, by omega, rfl, RR⟩
            · have hbt : bb v = false := Bool.eq_false_iff.2 (fun h => he (hbv.1 h).symm)
              rw [hbt] at yi
              have hlk := link_t w5.drew o5 1 p n Y _ u v (T5.quiet sd) hu hv he
              rw [Dm_link _ _ _ _ (fun x => he (by rw [x]))] at hlk
              have HK : Hid (∀ wx ox, Step (TL 1) w5.drew o5 wx ox → wx.cell? ⟨g, v, none⟩ = some (.bool false)) := fun wx ox s => (s.cell hg4 (by rw [hg1]; exact TL.no (by omega)) v).trans yi
              clear hbt hbv
              go_wp2_with fail
              go_region_held3 (fun wx => wx.cell? ⟨g, v, none⟩ = some (.bool false)) (first | (with_reducible exact kz) | (with_reducible exact yi) | go_keep) ((go_at_call 14; refine hlk.mono ?_; rintro e w6 ⟨rfl, o6, T6, s6⟩; have kz := HK.out _ _ s6))
              all_goals
                have K6 := (K5.step sd id id id id).step s6 (TL.no (by omega)) (TL.no (by omega)) (TL.no (by omega)) (TL.no (by omega))
                have t6 := (t5.trans sd.pos0).trans (s6.posT (by omega))
                have BB := B3.link E3 hu hv he
                have n9 := newStep (fun _ => False) w6 o6 5012 (.cells #[.int .i64 u, .int .i64 v] 49)
                have B9 : Blk (w6.alloc (.cells #[.int .i64 u, .int .i64 v] 49)) (newLab w6 o6 5012) 5012 w6.heap.size (.cells #[.int .i64 u, .int .i64 v] 49 (0, 0)) := ⟨heap_alloc_new w6 _, newLab_new (Nat.le_refl _)⟩
                have T9 := T6.quiet n9
                have K9 := K6.step n9 id id id id
                have t9 := t6.trans n9.pos0
                have hc9 := pair_cellsS B9
                have hl9 : (pairsL [(u, v)]).length = 1 * 2 := rfl
                have b9 : l.length + 1 ≤ maxLen := by unfold maxLen; omega
                have b10 : (l.length + 1) * 16 ≤ 140737488355328 := by omega
                obtain ⟨k0, k1, k2, k3, kf⟩ := K6.blk.cells4
                have R9 := K9.edges
                clear hlk HK s6 T6 K6 t6 T5 K5 t5 sd yi n9 B9
                go_wp2_with (first | (at_builtin; refine wpList_append_lab rfl (.tmp 128) (.tmp 132) 43 rfl 49 ii (.agg #[.int .i64 0, .int .i64 0]) 2 16 Try.underlying43 hii hzi0 hzi1 hzi2 rfl (by decide) (newLab w6 o6 5012) la _ l.length (pairsL l) rfl R9 ⟨w6.heap.size, 0, none⟩ 1 1 (pairsL [(u, v)]) rfl hl9 hc9 (pairsL_one _) (by decide) b9 b10 ?_) | go_in)
                intro g10 c10 w10 o10 r10 s10
                have r11 : RowP w10 o10 la (.slice (some ⟨g10, 0, none⟩) (l.length + 1) c10) (l ++ [(u, v)]) := by show Row _ _ _ _ _ _ _ _; rw [pairsL_append, List.length_append]; exact r10
                obtain ⟨KK, ss⟩ := K9.setl hla s10 r11
                obtain ⟨m0, m1, m2, m3, mf⟩ := (K9.blk.step s10 (by omega)).cells4
                have RR : SdS w p n pb (j + 1) (w10.setCell ⟨pb, 3, none⟩ (.slice (some ⟨g10, 0, none⟩) (l.length + 1) c10)) := ⟨o10, _, val, _, bn, l ++ [(u, v)], la, _, gv, cv, gb, cb, (T9.step s10 (fun k hk e => TL.no (by omega) hk)).step ss (fun k hk e => TL.no (by omega) hk), KK, BB, hla, (t9.trans (s10.mono (J := Pos) fun k hk => by unfold Pos; omega)).trans (ss.mono (J := Pos) fun k hk => by unfold Pos; omega)⟩
                clear r10 r11 s10 T9 K9 R9 t9 hc9 BB KK ss k0 k1 k2 k3 kf
                go_wp2
                go_roundg (151 - (j + 1))
                case measure => omega
                case rel => exact ⟨j + 1, by go_num, by omega, by omega, rfl, RR⟩
        · as_aux_lemma =>
            obtain ⟨k0, k1, k2, k3, kf⟩ := K4.blk.cells4
            have hpx := pick_any cx 3 w4 ix1 ix2 (by omega) (by omega)
            go_upto_region 26 with fail
            go_cut [149] (fun c wx => ∃ bq : Bool, c = .bool bq ∧ (bq = true → 0 < l.length) ∧ wx = w4)
            case first =>
              by_cases hl0 : 0 < l.length
              · go_wp2_with fail
                refine hpx.mono ?_
                rintro e w6 ⟨r, hr, rfl, hw6⟩
                obtain rfl : w4 = w6 := hw6.symm
                clear hpx
                by_cases hr0 : r = 0
                · subst hr0
                  go_wp2
                  go_meet
                  exact ⟨false, rfl, (fun h => by cases h), rfl⟩
                · have hr1 : (0 : Int) < (r : Int) := by omega
                  go_wp2
                  go_meet
                  exact ⟨true, congrArg Value.bool (decide_eq_true (by omega)), fun _ => hl0, rfl⟩
              · clear hpx
                go_wp2
                go_meet
                exact ⟨false, rfl, (fun h => by cases h), rfl⟩
            case rest =>
            obtain ⟨bq, rfl, hbq, rfl⟩ := hcut
            clear hpx
            go_upto_if 149 with fail
            go_cut [11, 12] (fun su sv wx => ∃ (u v : Nat), su = .int .i64 u ∧ sv = .int .i64 v ∧ u < n ∧ v < n ∧ ∃ o4, Tt wx o4 1 p n Y (Dm val mk) ∧ BkR wx o4 pb n val bn l la (.slice ao l.length cap) gv cv gb cb ∧ Step Pos w o0 wx o4)
            case first =>
              cases bq
              · go_wp2
                go_meet
                exact ⟨u, v, rfl, rfl, hu, hv, _, T4, K4, t4⟩
              · have hl0 := hbq rfl
                obtain ⟨g, cap', hvv, q1, q2, q3, q4, q5, q6⟩ := K4.edges.pos hl0
                simp only [Value.slice.injEq, true_and] at hvv
                obtain ⟨rfl, rfl⟩ := hvv
                have hwr : IntKind.i64.wrap (cx.tdiv 3) = cx.tdiv 3 := by
                  have hb := tdiv3_bd ix1 ix2
                  obtain ⟨y, hy⟩ : ∃ y, y = cx.tdiv 3 := ⟨_, rfl⟩
                  rw [← hy] at hb ⊢
                  rw [IntKind.wrap_i64]; omega
                obtain ⟨r2, hr2e⟩ : ∃ r2, r2 = pkN (cx.tdiv 3) l.length := ⟨_, rfl⟩
                have HPY : Hid (∀ wx, Calls Try.prog 12 #[.int .i64 (IntKind.i64.wrap (cx.tdiv 3)), .int .i64 l.length] wx fun e w' => e = .returned (.int .i64 r2) ∧ w' = wx) := fun wx => by
                  rw [hwr, hr2e]; exact pick_is (cx.tdiv 3) l.length wx (tdiv3_bd ix1 ix2).1 (tdiv3_bd ix1 ix2).2 (by omega) (by omega)
                have hr2 : r2 < l.length := by rw [hr2e]; exact pkN_lt _ _ hl0
                clear hwr hr2e
                obtain ⟨pu, pv, lt1, lt2, hr3, y1, y2⟩ : ∃ pu pv : Nat, pu < n ∧ pv < n ∧ (r2 : Int) < (l.length : Int) ∧ wc.cell? ⟨g, r2 * 2, none⟩ = some (.int .i64 pu) ∧ wc.cell? ⟨g, r2 * 2 + 1, none⟩ = some (.int .i64 pv) := by
                  obtain ⟨x1, x2⟩ := pairsL_get l r2 hr2
                  have y1 := (q5 (r2 * 2) (by omega)).trans x1
                  have y2 := (q5 (r2 * 2 + 1) (by omega)).trans x2
                  obtain ⟨lt1, lt2, lt3⟩ := B3.told.lt _ (List.getElem_mem hr2)
                  exact ⟨_, _, lt1, lt2, by omega, y1, y2⟩
                have ky : wc.cell? ⟨pb, 3, none⟩ = some (.slice (some ⟨g, 0, none⟩) l.length cap) ∧ wc.cell? ⟨po, 3, none⟩ = some (.int .i64 cx) ∧ wc.cell? ⟨g, r2 * 2, none⟩ = some (.int .i64 pu) ∧ wc.cell? ⟨g, r2 * 2 + 1, none⟩ = some (.int .i64 pv) := ⟨k3, c3, y1, y2⟩
                have HFIN : Hid (∀ pu pv : Nat, ∃ o5, Tt (wc.drew.alloc (.cells #[.int .i64 pu, .int .i64 pv] 49)) o5 1 p n Y (Dm val mk) ∧ BkR (wc.drew.alloc (.cells #[.int .i64 pu, .int .i64 pv] 49)) o5 pb n val bn l la (.slice (some ⟨g, 0, none⟩) l.length cap) gv cv gb cb ∧ Step Pos w o0 (wc.drew.alloc (.cells #[.int .i64 pu, .int .i64 pv] 49)) o5) := fun pu pv => by
                  have sd : Step (fun _ => False) wc o4 (wc.drew.alloc (.cells #[.int .i64 pu, .int .i64 pv] 49)) o4 := ((Step.refl _ _ _).drew).alloc _
                  exact ⟨o4, T4.quiet sd, K4.step sd id id id id, t4.trans sd.pos0⟩
                unfold maxLen at q3
                clear q5 q6 T4 K4 t4 k0 k1 k2 k3 kf c0 c1 c2 c3 c4 c5 B1
                go_wp2_with fail
                go_region_held3 (fun wx => wx.cell? ⟨pb, 3, none⟩ = some (.slice (some ⟨g, 0, none⟩) l.length cap) ∧ wx.cell? ⟨po, 3, none⟩ = some (.int .i64 cx) ∧ wx.cell? ⟨g, r2 * 2, none⟩ = some (.int .i64 pu) ∧ wx.cell? ⟨g, r2 * 2 + 1, none⟩ = some (.int .i64 pv)) (first | (with_reducible exact ky) | go_keep) ((go_at_call 12; refine (HPY.out _).mono ?_; rintro e w7 ⟨rfl, hw7⟩; subst hw7))
                all_goals
                  obtain ⟨o5, F1, F2, F3⟩ := HFIN.out pu pv
                  clear HPY HFIN y1 y2 ky
                  go_wp2
                  go_meet
                  exact ⟨pv, pu, rfl, rfl, lt2, lt1, o5, F1, F2, F3⟩
            case rest =>
            obtain ⟨u, v, rfl, rfl, hu, hv, o5, T5, K5, t5⟩ := hcut
            clear T4 K4 t4 B1 c0 c1 c2 c3 c4 c5 k0 k1 k2 k3 kf
            have hpl := place_s _ _ la u v _ l K5.edges (by omega)
            obtain ⟨k0, k1, k2, k3, kf⟩ := K5.blk.cells4
            go_wp2_with fail
            refine hpl.mono ?_
            rintro e w6 ⟨k, rfl, s6, hk⟩
            have HK : Hid (PlaceS l u v k) := hk
            have T6 := T5.quiet s6
            have K6 := K5.step s6 id id id id
            have t6 := t5.trans s6.pos0
            clear hpl s6 hk T5 K5 t5 k0 k1 k2 k3 kf
            by_cases hk0 : 0 ≤ k
            · have hin := HK.out.pos hk0
              obtain ⟨huv, hY⟩ := (B3.has hu hv).2 hin
              obtain ⟨x, y, A, M, Bq, hw, hs⟩ := E3.both hu huv hY
              obtain ⟨kk, hk', rfl, hke⟩ : ∃ kk, ∃ (h : kk < l.length), k = (kk : Int) ∧ (l[kk] = (u, v) ∨ l[kk] = (v, u)) := by
                rcases HK.out with ⟨rfl, _⟩ | h
                · omega
                · exact h
              have hct := cut_t _ _ 1 p n Y _ u v x y A M Bq T6 hu hv huv hw hs
              have BB := B3.cut E3 hu hv huv hw hs (Out.at B3.once hk' hke)
              obtain ⟨lb, hlb, hlb2⟩ : ∃ lb, (lb = 5001 ∨ lb = 5003) ∧ la ≠ lb := by rcases hla with rfl | rfl; exact ⟨5003, .inr rfl, by omega⟩; exact ⟨5001, .inl rfl, by omega⟩
              clear hin hY hke HK hs hw
              go_wp2_with fail
              refine hct.mono ?_
              rintro e w7 ⟨rfl, o7, T7, s7⟩
              have K7 := K6.step s7 (TL.no (by omega)) (TL.no (by omega)) (TL.no (by omega)) (TL.no (by omega))
              have t7 := t6.trans (s7.posT (by omega))
              clear hct s7 T6 K6 t6
              obtain ⟨gl, cap', hvv, q1, q2, q3, q4, q5, q6⟩ := K7.edges.pos (by omega)
              simp only [Value.slice.injEq, true_and] at hvv
              obtain ⟨rfl, rfl⟩ := hvv
              unfold maxLen at q3
              clear q5 q6
              have hk1 : (kk : Int) ≤ (l.length : Int) := by omega
              have hk2 : (kk : Int) ≤ (cap : Int) := by omega
              have hk3 : (kk : Int) + 1 ≤ (l.length : Int) := by omega
              have hk4 : (l.length : Int) ≤ (cap : Int) := by omega
              have rn : RowP w7 o7 lb (.slice none 0 0) [] := Row.nil _ _ _ _ _
              have c1 := RowP.cells 0 kk K7.edges
              rw [List.drop_zero, Nat.zero_mul] at c1
              have n1 : (pairsL (l.take kk)).length = kk * 2 := by rw [pairsL_len, List.length_take, Nat.min_eq_left (by omega)]
              have b1 : ([] : List (Nat × Nat)).length + kk ≤ maxLen := by simp only [List.length_nil, maxLen]; omega
              have b2 : (([] : List (Nat × Nat)).length + kk) * 16 ≤ 140737488355328 := by simp only [List.length_nil]; omega
              obtain ⟨k0, k1, k2, k3, kf⟩ := K7.blk.cells4
              go_wp2_with (first | (at_builtin; refine wpList_append_lab3 rfl (.tmp 186) (.tmp 192) 43 rfl 49 ii (.agg #[.int .i64 0, .int .i64 0]) 2 16 Try.underlying43 hii hzi0 hzi1 hzi2 rfl (by decide) o7 lb _ 0 [] rfl rn ⟨gl, 0, none⟩ kk cap (pairsL (l.take kk)) rfl n1 c1 (pairsL_one _) (fun _ => rfl) b1 b2 ?_) | go_in)
              intro v1 w8 o8 r8 s8 z8
              have K8 := K7.step s8 (by omega) (by omega) (by omega) (by omega)
              have T8 := T7.step s8 (fun k hk e => TL.no (by omega) hk)
              have t8 := t7.trans (s8.mono (J := Pos) fun k hk => by unfold Pos; omega)
              have hv1 : RowP w8 o8 la (.slice (some ⟨gl, 0, none⟩) l.length cap) l := K8.edges
              have c2 := hv1.cells (kk + 1) (l.length - (kk + 1))
              rw [List.take_of_length_le (show (l.drop (kk + 1)).length ≤ l.length - (kk + 1) by rw [List.length_drop]; omega)] at c2
              have n2 : (pairsL (l.drop (kk + 1))).length = (l.length - (kk + 1)) * 2 := by rw [pairsL_len, List.length_drop]
              have b3 : kk + (l.length - (kk + 1)) ≤ maxLen := by unfold maxLen; omega
              have b4 : (kk + (l.length - (kk + 1))) * 16 ≤ 140737488355328 := by omega
              clear rn c1 n1 b1 b2 s8 T7 K7 t7 k0 k1 k2 k3 kf
              obtain ⟨k0, k1, k2, k3, kf⟩ := K8.blk.cells4
              by_cases hcap : cap = kk + 1
              · have c3 : ∀ j u, (pairsL (l.drop (kk + 1)))[j]? = some u → w8.cell? ((⟨gl, 0, none⟩ : Addr).add j) = some u := fun j u hj => by
                  have := (List.getElem?_eq_some_iff.1 hj).1
                  rw [n2] at this; omega
                have hc0 : cap - (kk + 1) = 0 := by omega
                clear c2
                go_wp2_with (first | (at_builtin; refine wpList_append_lab3 rfl (.tmp 195) (.tmp 202) 43 rfl 49 ii (.agg #[.int .i64 0, .int .i64 0]) 2 16 Try.underlying43 hii hzi0 hzi1 hzi2 rfl (by decide) o8 lb _ kk (pairsL (l.take kk)) rfl r8 ⟨gl, 0, none⟩ (l.length - (kk + 1)) 0 (pairsL (l.drop (kk + 1))) rfl n2 c3 (pairsL_one _) z8 b3 b4 ?_) | go_in)
                intro v2 w9 o9 r9 s9 z9
                have eL : pairsL (l.take kk) ++ pairsL (l.drop (kk + 1)) = pairsL (l.take kk ++ l.drop (kk + 1)) := (pairsL_append _ _).symm
                have eN : kk + (l.length - (kk + 1)) = (l.take kk ++ l.drop (kk + 1)).length := by simp; omega
                have R9 : RowP w9 o9 lb v2 (l.take kk ++ l.drop (kk + 1)) := by show Row _ _ _ _ _ _ _ _; rw [← eL, ← eN]; exact r9
                obtain ⟨av2, cv2, rfl⟩ := R9.form
                obtain ⟨KK, ss⟩ := K8.setl hlb s9 R9
                obtain ⟨m0, m1, m2, m3, mf⟩ := (K8.blk.step s9 (by omega)).cells4
                have RR : SdS w p n pb (j + 1) (w9.setCell ⟨pb, 3, none⟩ (.slice av2 (l.take kk ++ l.drop (kk + 1)).length cv2)) := ⟨o9, _, val, mk, bn, _, lb, _, gv, cv, gb, cb, (T8.step s9 (fun k hk e => TL.no (by omega) hk)).step ss (fun k hk e => TL.no (by omega) hk), KK, BB, hlb, (t8.trans (s9.mono (J := Pos) fun k hk => by unfold Pos; omega)).trans (ss.mono (J := Pos) fun k hk => by unfold Pos; omega)⟩
                rw [List.length_append, List.length_take, List.length_drop] at RR
                clear r9 s9 z9 eL eN R9 KK ss T8 K8 t8 r8 z8 BB k0 k1 k2 k3 kf hv1 n2 b3 b4
                go_wp2
                go_roundg (151 - (j + 1))
                case measure => omega
                case rel => exact ⟨j + 1, by go_num, by omega, by omega, rfl, RR⟩
              · have hc1 : ((kk : Int) + 1 = (cap : Int)) = False := by simp; omega
                go_wp2_with (first | (at_builtin; refine wpList_append_lab3 rfl (.tmp 195) (.tmp 202) 43 rfl 49 ii (.agg #[.int .i64 0, .int .i64 0]) 2 16 Try.underlying43 hii hzi0 hzi1 hzi2 rfl (by decide) o8 lb _ kk (pairsL (l.take kk)) rfl r8 ⟨gl, (kk + 1) * 2, none⟩ (l.length - (kk + 1)) (cap - (kk + 1)) (pairsL (l.drop (kk + 1))) rfl n2 c2 (pairsL_one _) z8 b3 b4 ?_) | go_in)
                intro v2 w9 o9 r9 s9 z9
                have eL : pairsL (l.take kk) ++ pairsL (l.drop (kk + 1)) = pairsL (l.take kk ++ l.drop (kk + 1)) := (pairsL_append _ _).symm
                have eN : kk + (l.length - (kk + 1)) = (l.take kk ++ l.drop (kk + 1)).length := by simp; omega
                have R9 : RowP w9 o9 lb v2 (l.take kk ++ l.drop (kk + 1)) := by show Row _ _ _ _ _ _ _ _; rw [← eL, ← eN]; exact r9
                obtain ⟨av2, cv2, rfl⟩ := R9.form
                obtain ⟨KK, ss⟩ := K8.setl hlb s9 R9
                obtain ⟨m0, m1, m2, m3, mf⟩ := (K8.blk.step s9 (by omega)).cells4
                have RR : SdS w p n pb (j + 1) (w9.setCell ⟨pb, 3, none⟩ (.slice av2 (l.take kk ++ l.drop (kk + 1)).length cv2)) := ⟨o9, _, val, mk, bn, _, lb, _, gv, cv, gb, cb, (T8.step s9 (fun k hk e => TL.no (by omega) hk)).step ss (fun k hk e => TL.no (by omega) hk), KK, BB, hlb, (t8.trans (s9.mono (J := Pos) fun k hk => by unfold Pos; omega)).trans (ss.mono (J := Pos) fun k hk => by unfold Pos; omega)⟩
                rw [List.length_append, List.length_take, List.length_drop] at RR
                clear r9 s9 z9 eL eN R9 KK ss T8 K8 t8 r8 z8 BB k0 k1 k2 k3 kf hv1 n2 b3 b4
                go_wp2
                go_roundg (151 - (j + 1))
                case measure => omega
                case rel => exact ⟨j + 1, by go_num, by omega, by omega, rfl, RR⟩
            · have hk1 : k < 0 := by omega
              have HNO : Hid (∀ s ∈ l, s ≠ (u, v) ∧ s ≠ (v, u)) := HK.out.neg hk1
              have hno : ¬ (u ≠ v ∧ (u, v) ∈ Y u) := fun h => by
                rcases (B3.has hu hv).1 h with q | q
                · exact (HNO.out _ q).1 rfl
                · exact (HNO.out _ q).2 rfl
              have hct := cut_none_t _ _ 1 p n Y _ u v T6 hu hv hno
              clear hno HNO HK
              go_wp2_with fail
              refine hct.mono ?_
              rintro e w7 ⟨rfl, o7, T7, s7⟩
              have K7 := K6.step s7 (TL.no (by omega)) (TL.no (by omega)) (TL.no (by omega)) (TL.no (by omega))
              have RR : SdS w p n pb (j + 1) w7 := ⟨o7, Y, val, mk, bn, l, la, _, gv, cv, gb, cb, T7, K7, B3.more, hla, t6.trans (s7.posT (by omega))⟩
              clear hct s7 T6 K6 t6 T7 K7
              go_wp2
              go_roundg (151 - (j + 1))
              case measure => omega
              case rel => exact ⟨j + 1, by go_num, by omega, by omega, rfl, RR⟩
        · as_aux_lemma =>
            have hpx := pick_any cx 2001 w4 ix1 ix2 (by omega) (by omega)
            go_wp2_with fail
            refine hpx.mono ?_
            rintro e w5 ⟨r, hr, rfl, hw5⟩
            obtain rfl : w4 = w5 := hw5.symm
            clear hpx
            have hsv := setValue_t w4 o4 1 p n Y val mk v ((r : Int) - 1000) T4 hv (by omega)
            have BB := B3.value v ((r : Int) - 1000) (by omega)
            go_wp2_with fail
            refine hsv.mono ?_
            rintro e w6 ⟨rfl, o6, T6, s6⟩
            have K6 := K4.step s6 (TL.no (by omega)) (TL.no (by omega)) (TL.no (by omega)) (TL.no (by omega))
            have t6 := t4.trans (s6.posT (by omega))
            clear hsv s6 T4 K4 t4 B1 c0 c1 c2 c3 c4 c5
            obtain ⟨k0, k1, k2, k3, kf⟩ := K6.blk.cells4
            obtain ⟨gq, cq, hvl, _, vc, vm, _, v5, vf⟩ := K6.vals.pos (by omega)
            simp only [Value.slice.injEq, Option.some.injEq, Addr.mk.injEq, and_true, true_and] at hvl
            obtain ⟨rfl, rfl⟩ := hvl
            have yv := (v5 v (by omega)).trans (intsZ_get val hv)
            have yf := vf v
            have RR : SdS w p n pb (j + 1) (w6.setCell ⟨gv, v, none⟩ (.int .i64 ((r : Int) - 1000))) := by
              obtain ⟨KK, ss⟩ := K6.setv hla hv ((r : Int) - 1000)
              exact ⟨o6, Y, _, mk, bn, l, la, _, gv, cv, gb, cb, T6.step ss (fun k hk e => TL.no (by omega) hk), KK, BB, hla, t6.trans (ss.mono (J := Pos) fun k hk => by unfold Pos; omega)⟩
            unfold maxLen at vm
            clear v5 vf T6 K6 t6 BB
            go_wp2
            go_roundg (151 - (j + 1))
            case measure => omega
            case rel => exact ⟨j + 1, by go_num, by omega, by omega, rfl, RR⟩
        · as_aux_lemma =>
            have hsv := mark_t w4 o4 1 p n Y val mk v bo T4 hv
            have BB := B3.mark v bo
            go_wp2_with fail
            refine hsv.mono ?_
            rintro e w6 ⟨rfl, o6, T6, s6⟩
            have K6 := K4.step s6 (TL.no (by omega)) (TL.no (by omega)) (TL.no (by omega)) (TL.no (by omega))
            have B6 := B1.step s6 (TL.no (by omega))
            have t6 := t4.trans (s6.posT (by omega))
            clear hsv s6 T4 K4 t4 B1 c0 c1 c2 c3 c4 c5
            obtain ⟨k0, k1, k2, k3, kf⟩ := K6.blk.cells4
            obtain ⟨c0, c1, c2, c3, c4, c5⟩ := B6.cells6
            obtain ⟨gq, cq, hvl, gl1, vc, vm, _, v5, vf⟩ := K6.ons.pos (by omega)
            simp only [Value.slice.injEq, Option.some.injEq, Addr.mk.injEq, and_true, true_and] at hvl
            obtain ⟨rfl, rfl⟩ := hvl
            have yv := (v5 v (by omega)).trans (boolsL_get bn hv)
            have yf := vf v
            have ne1 : pb ≠ gb := fun e => by have := K6.blk.2; rw [e, gl1] at this; omega
            have ne2 : po ≠ gb := fun e => by have := B6.2; rw [e, gl1] at this; omega
            have RR : SdS w p n pb (j + 1) (w6.setCell ⟨gb, v, none⟩ (.bool bo)).drew := by
              obtain ⟨KK, ss⟩ := K6.seto hla hv bo
              have sd : Step (fun _ => False) (w6.setCell ⟨gb, v, none⟩ (.bool bo)) o6 (w6.setCell ⟨gb, v, none⟩ (.bool bo)).drew o6 := (Step.refl _ _ _).drew
              exact ⟨o6, Y, _, _, _, l, la, _, gv, cv, gb, cb, (T6.step ss (fun k hk e => TL.no (by omega) hk)).quiet sd, KK.step sd id id id id, BB, hla, (t6.trans (ss.mono (J := Pos) fun k hk => by unfold Pos; omega)).trans sd.pos0⟩
            have kz : (w6.setCell ⟨gb, v, none⟩ (.bool bo)).drew.cell? ⟨pb, 2, none⟩ = some (.slice (some ⟨gb, 0, none⟩) n cb) ∧ (w6.setCell ⟨gb, v, none⟩ (.bool bo)).drew.cell? ⟨po, 4, none⟩ = some (.bool bo) :=
              ⟨(World.cell?_setCell_other _ _ _ _ (fun e => ne1 (by injection e with e; exact e.symm))).trans k2, (World.cell?_setCell_other _ _ _ _ (fun e => ne2 (by injection e with e; exact e.symm))).trans c4⟩
            have ky : w6.cell? ⟨pb, 2, none⟩ = some (.slice (some ⟨gb, 0, none⟩) n cb) ∧ w6.cell? ⟨po, 4, none⟩ = some (.bool bo) := ⟨k2, c4⟩
            unfold maxLen at vm
            clear v5 vf T6 K6 t6 BB B6
            go_wp2_with fail
            go_region_held3 (fun wx => wx.cell? ⟨pb, 2, none⟩ = some (.slice (some ⟨gb, 0, none⟩) n cb) ∧ wx.cell? ⟨po, 4, none⟩ = some (.bool bo)) (first | (with_reducible exact kz) | (with_reducible exact ky) | go_keep) (fail)
            all_goals
              clear kz ky yv yf k0 k1 k2 k3 kf c0 c1 c2 c3 c4 c5
              go_wp2
              go_roundg (151 - (j + 1))
              case measure => omega
              case rel => exact ⟨j + 1, by go_num, by omega, by omega, rfl, RR⟩
        · as_aux_lemma =>
            have hre := reroot_t w4 o4 1 p n Y _ v T4 hv
            obtain ⟨R, hR⟩ := walk_first2 E3 hv
            have BB := B3.turn E3 hv
            go_wp2_with fail
            refine hre.mono ?_
            rintro e w6 ⟨rfl, o6, T6, s6⟩
            have K6 := K4.step s6 (TL.no (by omega)) (TL.no (by omega)) (TL.no (by omega)) (TL.no (by omega))
            have t6 := t4.trans (s6.posT (by omega))
            clear hre s6 T4 K4 t4 B1 c0 c1 c2 c3 c4 c5
            generalize hY6 : setY Y (turnX (Y v) (v, v)) = Y6 at T6 hR BB
            have hwk := walk_t w6 o6 1 p n 5006 Y6 _ v T6 hv (TL.no (by omega))
            rw [hR] at hwk
            clear hY6 hR
            go_wp2_with fail
            refine hwk.mono ?_
            rintro e w7 ⟨va, o7, rfl, r7, T7, s7⟩
            have K7 := K6.step s7 (fun h => h.elim (TL.no (by omega)) (by omega)) (fun h => h.elim (TL.no (by omega)) (by omega)) (fun h => h.elim (TL.no (by omega)) (by omega)) (fun h => h.elim (TL.no (by omega)) (by omega))
            have t7 := t6.trans (s7.posW (by omega) (by omega))
            obtain ⟨gx, ccx, rfl, hx1, hx2, hx3, hx4, hx5, hx6⟩ := r7.pos (by simp)
            have cx0 := (hx5 0 (by simp)).trans (show (intsL (v :: R))[0]? = some (.int .i64 v) by rfl)
            have RR : SdS w p n pb (j + 1) w7 := ⟨o7, Y6, val, mk, bn, l, la, _, gv, cv, gb, cb, T7, K7, BB, hla, t7⟩
            have hRl : 0 < (v :: R).length := by simp
            unfold maxLen at hx3
            clear hwk s7 T6 K6 t6 r7 hx5 hx6 T7 K7 t7 BB
            generalize (v :: R).length = lx at *
            have hRl2 : (0 : Int) < (lx : Int) := by omega
            have hRl3 : ((lx : Int) == 0) = false := by simp only [beq_eq_false_iff_ne, ne_eq]; omega
            go_wp2
            go_roundg (151 - (j + 1))
            case measure => omega
            case rel => exact ⟨j + 1, by go_num, by omega, by omega, rfl, RR⟩
      · by_cases hj1 : (j : Int) < (len1 : Int)
        all_goals
          go_wp2
          go_meet
          exact ⟨j, hj2, o3, Y, val, mk, bn, l, la, vl, gv, cv, gb, cb, T3, K3, B3, hla, t3⟩
  case rest =>
    obtain ⟨j, hj2, o3, Y, val, mk, bn, l, la, vl, gv, cv, gb, cb, T3, K3, B3, hla, t3⟩ := hcut
    obtain ⟨ao, cap, rfl⟩ := K3.edges.form
    have hst := stands_t wc o3 pb p n Y val mk bn l la j ao cap gv cv gb cb T3 K3 B3 hla (by omega) hn1 hn2
    clear ha1 START
    go_wp2_with fail
    refine hst.mono ?_
    rintro e w9 ⟨rfl, o9, s9⟩
    have HB := (t3.trans s9).old
    clear hst T3 K3 B3 t3 s9
    go_wp2
    go_ret
    exact ⟨rfl, HB⟩

end Go.Proofs.Ytnpfagpgploolaa
