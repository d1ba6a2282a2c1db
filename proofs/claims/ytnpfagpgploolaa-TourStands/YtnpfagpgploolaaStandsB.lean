/- What a book says, and what tours say: the law's own function. -/
import Derived.Test.YtnpfagpgploolaaStM
import Derived.Test.YtnpfagpgploolaaJoinA
import Derived.Test.YtnpfagpgploolaaWoutW
import Derived.Deep.LoopGhost
import Derived.Deep.RegionHeld3
import Derived.Deep.CutBlock
import Derived.Deep.DeepCutAuto
namespace Go.Proofs.Ytnpfagpgploolaa
open Go.ChangeShapes Go.WideShapes Go.ChangeAt Go.RowKit Go.Maps
set_option linter.unusedVariables false

/-- Numbers, as they lie in a slice. -/
def intsZ (val : Nat → Int) (n : Nat) : List Value := (List.range n).map (fun v => Value.int .i64 (val v))
theorem intsZ_get (val : Nat → Int) {n v : Nat} (h : v < n) : (intsZ val n)[v]? = some (.int .i64 (val v)) := by simp [intsZ, h]
/-- A book in memory. -/
structure BkR (w : World) (o : Nat → Nat) (pb n : Nat) (val : Nat → Int) (bn : Nat → Bool) (l : List (Nat × Nat)) (la : Nat) (vl : Value) (gv cv gb cb : Nat) : Prop where
  blk : Blk w o 5020 pb (.cells #[.int .i64 n, .slice (some ⟨gv, 0, none⟩) n cv, .slice (some ⟨gb, 0, none⟩) n cb, vl] 45 (0, 0))
  vals : Row w o 5021 3 1 (.slice (some ⟨gv, 0, none⟩) n cv) n (intsZ val n)
  ons : Row w o 5022 4 1 (.slice (some ⟨gb, 0, none⟩) n cb) n (boolsL bn n)
  edges : RowP w o la vl l
theorem BkR.step {I : Nat → Prop} {w w' : World} {o o' : Nat → Nat} {pb n : Nat} {val : Nat → Int} {bn : Nat → Bool} {l : List (Nat × Nat)} {la : Nat} {vl : Value} {gv cv gb cb : Nat} (h : BkR w o pb n val bn l la vl gv cv gb cb) (s : Step I w o w' o') (h1 : ¬ I 5020) (h2 : ¬ I 5021) (h3 : ¬ I 5022) (h4 : ¬ I la) : BkR w' o' pb n val bn l la vl gv cv gb cb :=
  ⟨h.blk.step s h1, h.vals.step s h2, h.ons.step s h3, Row.step h.edges s h4⟩
/-- The state of the outer loop. -/
def StO (w : World) (o : Nat → Nat) (pb p n : Nat) (Y : Nat → List (Nat × Nat)) (val : Nat → Int) (mk : Nat × Nat → Bool) (bn : Nat → Bool) (l : List (Nat × Nat)) (la : Nat) (vl : Value) (gv cv gb cb : Nat) (wr : World) : Prop :=
  ∃ o', Tt wr o' 1 p n Y (Dm val mk) ∧ BkR wr o' pb n val bn l la vl gv cv gb cb ∧ Step Pos w o wr o'
def aggC (G : Ag) : Array Value := #[.int .i64 0, .int .i64 G.sum, .int .i64 G.least, .int .i64 G.most, .int .i64 G.flags]
/-- The state of the first inner loop: who is seen, what is wanted. -/
structure StJ (w : World) (o : Nat → Nat) (pb p n : Nat) (Y : Nat → List (Nat × Nat)) (val : Nat → Int) (mk : Nat × Nat → Bool) (bn : Nat → Bool) (l : List (Nat × Nat)) (la : Nat) (vl : Value) (gv cv gb cb : Nat) (gi ci gs cs bw bs : Nat) (b : Nat → Bool) (va : Value) (xs : List Nat) (S : Ag) (sn : Nat → Bool) (WC : Array Value) (wr : World) (o' : Nat → Nat) : Prop where
  t : Tt wr o' 1 p n Y (Dm val mk)
  k : BkR wr o' pb n val bn l la vl gv cv gb cb
  st : Step Pos w o wr o'
  inn : Row wr o' 5005 4 1 (.slice (some ⟨gi, 0, none⟩) n ci) n (boolsL b n)
  ls : Row wr o' 5006 3 1 va xs.length (intsL xs)
  seen : Row wr o' 5007 4 1 (.slice (some ⟨gs, 0, none⟩) n cs) n (boolsL sn n)
  want : Blk wr o' 5008 bw (.cells WC 62 (0, 0))
  sum : Blk wr o' 5014 bs (.cells #[.int .i64 xs.length, .int .i64 S.sum, .int .i64 S.least, .int .i64 S.most, .int .i64 S.flags] 62 (0, 0))
theorem StJ.see {w : World} {o : Nat → Nat} {pb p n : Nat} {Y : Nat → List (Nat × Nat)} {val : Nat → Int} {mk : Nat × Nat → Bool} {bn : Nat → Bool} {l : List (Nat × Nat)} {la : Nat} {vl : Value} {gv cv gb cb gi ci gs cs bw bs : Nat} {b : Nat → Bool} {va : Value} {xs : List Nat} {S : Ag} {sn : Nat → Bool} {WC : Array Value} {wr : World} {o' : Nat → Nat} (h : StJ w o pb p n Y val mk bn l la vl gv cv gb cb gi ci gs cs bw bs b va xs S sn WC wr o') (hla : la = 5001 ∨ la = 5003) {x : Nat} (hx : x < n) :
    StJ w o pb p n Y val mk bn l la vl gv cv gb cb gi ci gs cs bw bs b va xs S (fun w => if w = x then true else sn w) WC (wr.setCell ⟨gs, x, none⟩ (.bool true)) o' := by
  have hl : o' gs = 5007 := h.seen.2 gs rfl
  have f : Step (fun k => k = 5007) wr o' (wr.setCell ⟨gs, x, none⟩ (.bool true)) o' := (Step.refl _ _ _).setCell _ _ hl
  have sr := h.seen.store x (.bool true)
  rw [boolsL_set _ hx] at sr
  exact ⟨h.t.step f (fun k hk e => TL.no (by omega) hk), h.k.step f (by omega) (by omega) (by omega) (by omega), h.st.trans (f.mono (J := Pos) fun k hk => by unfold Pos; omega), h.inn.step f (by omega), h.ls.step f (by omega), sr, h.want.step f (by omega), h.sum.step f (by omega)⟩
theorem StJ.wish {w : World} {o : Nat → Nat} {pb p n : Nat} {Y : Nat → List (Nat × Nat)} {val : Nat → Int} {mk : Nat × Nat → Bool} {bn : Nat → Bool} {l : List (Nat × Nat)} {la : Nat} {vl : Value} {gv cv gb cb gi ci gs cs bw bs : Nat} {b : Nat → Bool} {va : Value} {xs : List Nat} {S : Ag} {sn : Nat → Bool} {WC : Array Value} {wr : World} {o' : Nat → Nat} (h : StJ w o pb p n Y val mk bn l la vl gv cv gb cb gi ci gs cs bw bs b va xs S sn WC wr o') (hla : la = 5001 ∨ la = 5003) (j : Nat) (u : Value) :
    StJ w o pb p n Y val mk bn l la vl gv cv gb cb gi ci gs cs bw bs b va xs S sn (WC.setIfInBounds j u) (wr.setCell ⟨bw, j, none⟩ u) o' := by
  have f : Step (fun k => k = 5008) wr o' (wr.setCell ⟨bw, j, none⟩ u) o' := (Step.refl _ _ _).setCell _ _ h.want.2
  exact ⟨h.t.step f (fun k hk e => TL.no (by omega) hk), h.k.step f (by omega) (by omega) (by omega) (by omega), h.st.trans (f.mono (J := Pos) fun k hk => by unfold Pos; omega), h.inn.step f (by omega), h.ls.step f (by omega), h.seen.step f (by omega), h.want.set j u, h.sum.step f (by omega)⟩
theorem StJ.drewN {w : World} {o : Nat → Nat} {pb p n : Nat} {Y : Nat → List (Nat × Nat)} {val : Nat → Int} {mk : Nat × Nat → Bool} {bn : Nat → Bool} {l : List (Nat × Nat)} {la : Nat} {vl : Value} {gv cv gb cb gi ci gs cs bw bs : Nat} {b : Nat → Bool} {va : Value} {xs : List Nat} {S : Ag} {sn : Nat → Bool} {WC : Array Value} {wr : World} {o' : Nat → Nat} (h : StJ w o pb p n Y val mk bn l la vl gv cv gb cb gi ci gs cs bw bs b va xs S sn WC wr o') (m : Nat) :
    StJ w o pb p n Y val mk bn l la vl gv cv gb cb gi ci gs cs bw bs b va xs S sn WC (wr.drewN m) o' := by
  have f : Step (fun _ => False) wr o' (wr.drewN m) o' := (Step.refl _ _ _).drewN m
  exact ⟨h.t.quiet f, h.k.step f id id id id, h.st.trans f.pos0, h.inn.step f id, h.ls.step f id, h.seen.step f id, h.want.step f id, h.sum.step f id⟩
theorem StJ.tour {w : World} {o : Nat → Nat} {pb p n : Nat} {Y : Nat → List (Nat × Nat)} {val : Nat → Int} {mk : Nat × Nat → Bool} {bn : Nat → Bool} {l : List (Nat × Nat)} {la : Nat} {vl : Value} {gv cv gb cb gi ci gs cs bw bs : Nat} {b : Nat → Bool} {va : Value} {xs : List Nat} {S : Ag} {sn : Nat → Bool} {WC : Array Value} {wr w' : World} {o' o2 : Nat → Nat} (h : StJ w o pb p n Y val mk bn l la vl gv cv gb cb gi ci gs cs bw bs b va xs S sn WC wr o') (hla : la = 5001 ∨ la = 5003) (t : Tt w' o2 1 p n Y (Dm val mk)) (f : Step (TL 1) wr o' w' o2) :
    StJ w o pb p n Y val mk bn l la vl gv cv gb cb gi ci gs cs bw bs b va xs S sn WC w' o2 :=
  ⟨t, h.k.step f (TL.no (by omega)) (TL.no (by omega)) (TL.no (by omega)) (TL.no (by omega)), h.st.trans (f.posT (by omega)), h.inn.step f (TL.no (by omega)), h.ls.step f (TL.no (by omega)), h.seen.step f (TL.no (by omega)), h.want.step f (TL.no (by omega)), h.sum.step f (TL.no (by omega))⟩
/-- The state of the first inner loop at a number of rounds. -/
abbrev StI (w : World) (o : Nat → Nat) (pb p n : Nat) (Y : Nat → List (Nat × Nat)) (val : Nat → Int) (mk : Nat × Nat → Bool) (bn : Nat → Bool) (l : List (Nat × Nat)) (la : Nat) (vl : Value) (gv cv gb cb : Nat) (gi ci gs cs bw bs : Nat) (b : Nat → Bool) (va : Value) (xs : List Nat) (S : Ag) (i : Nat) (wr : World) (o' : Nat → Nat) : Prop :=
  StJ w o pb p n Y val mk bn l la vl gv cv gb cb gi ci gs cs bw bs b va xs S (fun u => decide (u ∈ xs.take i)) (aggC (agg ((xs.take i).map (itV val bn)))) wr o'

set_option maxRecDepth 100000 in
set_option maxHeartbeats 40000000 in
theorem stands_t (w : World) (o : Nat → Nat) (pb p n : Nat) (Y : Nat → List (Nat × Nat)) (val : Nat → Int) (mk : Nat × Nat → Bool) (bn : Nat → Bool) (l : List (Nat × Nat)) (la c : Nat) (ao : Option Addr) (cap gv cv gb cb : Nat) (T : Tt w o 1 p n Y (Dm val mk)) (K : BkR w o pb n val bn l la (.slice ao l.length cap) gv cv gb cb) (B : BookM n Y val mk bn l c) (hla : la = 5001 ∨ la = 5003) (hc : c ≤ 1000) (hn0 : 1 ≤ n) (hn : n ≤ 64) :
    Calls Try.prog 21 #[.pointer (some ⟨pb, 0, none⟩), .pointer (some ⟨p, 0, none⟩)] w fun e w' => e = .returned (.bool true) ∧ ∃ o', Step Pos w o w' o' := by
  obtain ⟨ii, hii, hzi0, hzi1, hzi2⟩ := info_parts infoBool
  obtain ⟨ms, E⟩ := T.eu
  have hlen := B.len
  have START : StO w o pb p n Y val mk bn l la (.slice ao l.length cap) gv cv gb cb w := ⟨o, T, K, Step.refl _ _ _⟩
  clear T K
  go_enter Try.func21, Try.ntmps21
  go_wp2
  go_loopg [5] n (fun gh iv wr => ∃ q : Nat, iv = .int .i64 (q : Nat) ∧ q ≤ n ∧ gh = n - q ∧ StO w o pb p n Y val mk bn l la (.slice ao l.length cap) gv cv gb cb wr)
  case atStart => exact ⟨0, by go_num, by omega, by omega, START⟩
  case round =>
    clear START
    obtain ⟨q, rfl, hq, rfl, o4, T4, K4, t4⟩ := hrel
    obtain ⟨k0, k1, k2, k3, kf⟩ := K4.blk.cells4
    by_cases hqn : q < n
    · have hqI : (q : Int) < (n : Int) := by omega
      have sd : Step (fun _ => False) wr o4 wr.drew o4 := (Step.refl _ _ _).drew
      have hjo := joined_any wr.drew o4 5005 la n q _ l (RowP.vw (Row.step K4.edges sd id)) (by omega) hqn hn (by omega) (fun s hs => ⟨(B.told.lt s hs).1, (B.told.lt s hs).2.1⟩)
      have HK : Hid (∀ wx ox, Step (fun k => k = 5005) wr.drew o4 wx ox → wx.cell? ⟨pb, 0, none⟩ = some (.int .i64 n) ∧ wx.cell? ⟨pb, 3, none⟩ = some (.slice ao l.length cap)) := fun wx ox s => by
        obtain ⟨z0, z1, z2, z3, zf⟩ := ((K4.blk.step sd id).step s (by omega)).cells4
        exact ⟨z0, z3⟩
      have kk : wr.cell? ⟨pb, 0, none⟩ = some (.int .i64 n) ∧ wr.cell? ⟨pb, 3, none⟩ = some (.slice ao l.length cap) := ⟨k0, k3⟩
      go_wp2_with fail
      go_region_held3 (fun wx => wx.cell? ⟨pb, 0, none⟩ = some (.int .i64 n) ∧ wx.cell? ⟨pb, 3, none⟩ = some (.slice ao l.length cap)) (first | (with_reducible exact kj) | (with_reducible exact kk) | go_keep) ((go_at_call 13; refine hjo.mono ?_; rintro e w5 ⟨gi, ci, b, o5, rfl, r5, HLe, s5⟩; have kj := HK.out _ _ s5))
      all_goals
        have T5 := (T4.quiet sd).step s5 (fun k hk e => TL.no (by omega) hk)
        have K5 := (K4.step sd id id id id).step s5 (by omega) (by omega) (by omega) (by omega)
        have t5 := (t4.trans sd.pos0).trans (s5.mono (J := Pos) fun k hk => by unfold Pos; omega)
        have hb : ∀ v, v < n → (b v = true ↔ Y v = Y q) := fun v hv => B.told.joined E hqn HLe hv
        clear hjo HK HLe s5 sd T4 K4 t4 k0 k1 k2 k3 kf kk
        have hwk := walk_t w5 o5 1 p n 5006 Y _ q T5 hqn (TL.no (by omega))
        go_wp2_with fail
        refine hwk.mono ?_
        rintro e w6 ⟨va, o6, rfl, r6, T6, s6⟩
        have K6 := K5.step s6 (fun h => h.elim (TL.no (by omega)) (by omega)) (fun h => h.elim (TL.no (by omega)) (by omega)) (fun h => h.elim (TL.no (by omega)) (by omega)) (fun h => h.elim (TL.no (by omega)) (by omega))
        have i6 := r5.step s6 (fun h => h.elim (TL.no (by omega)) (by omega))
        have t6 := t5.trans (s6.posW (by omega) (by omega))
        clear hwk s6 T5 K5 t5 r5 kj
        have hsm := sum_t w6 o6 1 p n Y _ q T6 hqn
        rw [agg_walk B.stop B.none] at hsm
        go_wp2_with fail
        refine hsm.mono ?_
        rintro e w7 ⟨rfl, o7, T7, s7⟩
        have K7 := K6.step s7 (TL.no (by omega)) (TL.no (by omega)) (TL.no (by omega)) (TL.no (by omega))
        have i7 := i6.step s7 (TL.no (by omega))
        have l7 := r6.step s7 (TL.no (by omega))
        have t7 := t6.trans (s7.posT (by omega))
        clear hsm s7 T6 K6 t6 i6 r6
        obtain ⟨xs, hxs⟩ : ∃ xs, xs = walkY (Y q) := ⟨_, rfl⟩
        rw [← hxs] at l7 ⊢
        obtain ⟨S, hS⟩ : ∃ S, S = agg (xs.map (itV val bn)) := ⟨_, rfl⟩
        rw [← hS]
        have hSc : S.count = xs.length := by rw [hS, agg_countV]
        have hSf : S.flags = 0 ∨ S.flags = 1 := by rw [hS]; exact agg_flagsV val bn xs
        have hmany : manyY Y q n = xs.length := by rw [hxs]; exact manyY_walk E hqn
        have hxn : ∀ x ∈ xs, x < n ∧ b x = true := fun x hx => by
          rw [hxs, mem_walkY2, E.iff2 hqn] at hx
          exact ⟨hx.1, (hb x hx.1).2 hx.2⟩
        have hnd : xs.Nodup := by rw [hxs]; exact nodup_walkY2 (E.nodup q hqn)
        have hxl : xs.length ≤ n := by rw [← hmany]; exact manyY_le _ _ _
        obtain ⟨av, cva, rfl⟩ := l7.form
        have HXS : Hid (xs = walkY (Y q)) := hxs
        have HS : Hid (S = agg (xs.map (itV val bn))) := hS
        have HM : Hid (manyY Y q n = xs.length) := hmany
        have HN : Hid (xs.Nodup) := hnd
        have HX : Hid (∀ x ∈ xs, x < n ∧ b x = true) := hxn
        have HB : Hid (∀ v, v < n → (b v = true ↔ Y v = Y q)) := hb
        unfold aggV
        rw [hSc]
        clear hxs hS hmany hnd hxn hb hSc
        have n8 := newStep (fun _ => False) w7 o7 5014 (.cells #[.int .i64 xs.length, .int .i64 S.sum, .int .i64 S.least, .int .i64 S.most, .int .i64 S.flags] 62)
        have B8 : Blk (w7.alloc (.cells #[.int .i64 xs.length, .int .i64 S.sum, .int .i64 S.least, .int .i64 S.most, .int .i64 S.flags] 62)) (newLab w7 o7 5014) 5014 w7.heap.size (.cells #[.int .i64 xs.length, .int .i64 S.sum, .int .i64 S.least, .int .i64 S.most, .int .i64 S.flags] 62 (0, 0)) := ⟨heap_alloc_new w7 _, newLab_new (Nat.le_refl _)⟩
        have T8 := T7.quiet n8
        have K8 := K7.step n8 id id id id
        have i8 := i7.step n8 id
        have l8 := l7.step n8 id
        have t8 := t7.trans n8.pos0
        clear n8 T7 K7 i7 l7 t7
        obtain ⟨s0, s1, s2, s3, s4, sf⟩ := B8.cells5
        go_upto_region 9 with fail
        clear s0 s1 s2 s3 s4 sf
        obtain ⟨w8, hw8⟩ : ∃ w8, w8 = w7.alloc (.cells #[.int .i64 xs.length, .int .i64 S.sum, .int .i64 S.least, .int .i64 S.most, .int .i64 S.flags] 62) := ⟨_, rfl⟩
        obtain ⟨o8, ho8⟩ : ∃ o8, o8 = newLab w7 o7 5014 := ⟨_, rfl⟩
        rw [← hw8]
        rw [← hw8, ← ho8] at T8 K8 i8 l8 t8 B8
        clear hw8 ho8
        generalize w7.heap.size = bs at *
        have n9 := newStep (fun _ => False) w8 o8 5008 (.cells #[.int .i64 0, .int .i64 0, .int .i64 0, .int .i64 0, .int .i64 0] 62)
        have B9 : Blk (w8.alloc (.cells #[.int .i64 0, .int .i64 0, .int .i64 0, .int .i64 0, .int .i64 0] 62)) (newLab w8 o8 5008) 5008 w8.heap.size (.cells #[.int .i64 0, .int .i64 0, .int .i64 0, .int .i64 0, .int .i64 0] 62 (0, 0)) := ⟨heap_alloc_new w8 _, newLab_new (Nat.le_refl _)⟩
        have T9 := T8.quiet n9
        have K9 := K8.step n9 id id id id
        have i9 := i8.step n9 id
        have l9 := l8.step n9 id
        have t9 := t8.trans n9.pos0
        have S9 := B8.step n9 id
        clear n9 T8 K8 i8 l8 t8 B8
        go_upto_region 10 with fail
        obtain ⟨w9, hw9⟩ : ∃ w9, w9 = w8.alloc (.cells #[.int .i64 0, .int .i64 0, .int .i64 0, .int .i64 0, .int .i64 0] 62) := ⟨_, rfl⟩
        obtain ⟨o9, ho9⟩ : ∃ o9, o9 = newLab w8 o8 5008 := ⟨_, rfl⟩
        rw [← hw9]
        rw [← hw9, ← ho9] at T9 K9 i9 l9 t9 B9 S9
        clear hw9 ho9
        generalize w8.heap.size = bw at *
        obtain ⟨k0, k1, k2, k3, kf⟩ := K9.blk.cells4
        go_wp2_with (at_make; refine wpList_make_full _ rfl _ _ 42 rfl w9.heap.size 4 ii (.bool false) 1 Try.underlying42 hii hzi0 hzi1 .i64 .i64 _ _ n rfl rfl rfl rfl ?b2 ?b3 (Nat.le_refl _) ?_)
        case b2 => rw [hzi2]; omega
        case b3 => unfold maxLen; omega
        intro w10 hown hgr
        have r10 : Row w10 (newLab w9 o9 5007) 5007 4 1 (.slice (some ⟨w9.heap.size, 0, none⟩) n n) n (boolsL (fun u => decide (u ∈ xs.take 0)) n) := by
          refine ⟨?_, fun k hk => ?_⟩
          · have := ownsRow_base0 hown
            have e : boolsL (fun u => decide (u ∈ xs.take 0)) n = boolsL (fun _ => false) n := by congr 1
            rw [e, ← made_bools]; exact this
          · simp [Value.ownBlock] at hk; subst hk; exact newLab_new (Nat.le_refl _)
        have s10 : Step (fun _ => False) w9 o9 w10 (newLab w9 o9 5007) := ⟨hgr.os, hgr.tape, hgr.output, hgr.size, fun k hk => newLab_old hk, fun k hk _ => hgr.block k hk (by simp)⟩
        have START : StI w o pb p n Y val mk bn l la (.slice ao l.length cap) gv cv gb cb gi ci w9.heap.size n bw bs b (.slice av xs.length cva) xs S 0 w10 (newLab w9 o9 5007) :=
          ⟨T9.quiet s10, K9.step s10 id id id id, t9.trans s10.pos0, i9.step s10 id, l9.step s10 id, r10, B9.step s10 id, S9.step s10 id⟩
        generalize w9.heap.size = gs at *
        clear hown hgr r10 s10 T9 K9 t9 i9 l9 B9 S9 k0 k1 k2 k3 kf
        go_wp2
        go_loopg [13] xs.length (fun gh vi wy => ∃ i2 : Nat, vi = .int .i64 (i2 : Nat) ∧ i2 ≤ xs.length ∧ gh = xs.length - i2 ∧ ∃ ox, StI w o pb p n Y val mk bn l la (.slice ao l.length cap) gv cv gb cb gi ci gs n bw bs b (.slice av xs.length cva) xs S i2 wy ox)
        case atStart => exact ⟨0, by go_num, by omega, by omega, _, START⟩
        case round =>
          clear START
          obtain ⟨i2, rfl, hi2, rfl, ox, J⟩ := hrel
          by_cases hil : i2 < xs.length
          · as_aux_lemma =>
              obtain ⟨hxn, hbx⟩ := HX.out _ (List.getElem_mem hil)
              have hnt : xs[i2] ∉ xs.take i2 := fun hm => by
                obtain ⟨k, hk, e⟩ := List.mem_iff_getElem.1 hm
                rw [List.length_take] at hk
                rw [List.getElem_take] at e
                have := (List.getElem_inj HN.out).1 e
                omega
              have HT : Hid (xs.take (i2 + 1) = xs.take i2 ++ [xs[i2]]) := List.take_succ_eq_append_getElem hil
              obtain ⟨gl, cl, hvl, _, _, l3, _, l5, _⟩ := J.ls.pos (by omega)
              simp only [Value.slice.injEq, true_and] at hvl
              obtain ⟨rfl, rfl⟩ := hvl
              have yl := (l5 i2 (by omega)).trans (show (intsL xs)[i2]? = some (.int .i64 (xs[i2] : Nat)) by simp [intsL, hil])
              obtain ⟨g1, c1, hv1, hg1, hg2, hg3, hg4, hg5, hg6⟩ := J.inn.pos (by omega)
              simp only [Value.slice.injEq, Option.some.injEq, Addr.mk.injEq, and_true, true_and] at hv1
              obtain ⟨rfl, rfl⟩ := hv1
              have yi := (hg5 _ (by omega)).trans (boolsL_get b hxn)
              obtain ⟨g1, c1, hv1, ho1, ho2, ho3, ho4, ho5, ho6⟩ := J.seen.pos (by omega)
              simp only [Value.slice.injEq, Option.some.injEq, Addr.mk.injEq, and_true, true_and] at hv1
              obtain ⟨rfl, hcc⟩ := hv1
              have ys := (ho5 _ (by omega)).trans (boolsL_get _ hxn)
              rw [decide_eq_false hnt] at ys
              rw [hbx] at yi
              have yf := ho6 xs[i2]
              obtain ⟨k0, k1, k2, k3, kf⟩ := J.k.blk.cells4
              have hxs : ∃ x, x = xs[i2] := ⟨_, rfl⟩
              obtain ⟨x, hx⟩ := hxs
              have HXE : Hid (x = xs[i2]) := hx
              rw [← hx] at yl yi ys yf hxn HT hnt
              have hxI : (x : Int) < (n : Int) := by omega
              have hiI : (i2 : Int) < (xs.length : Int) := by omega
              have J2 := fun nq => (J.drewN nq).see hla hxn
              have HJ2 : Hid (∀ nq, StJ w o pb p n Y val mk bn l la (.slice ao l.length cap) gv cv gb cb gi ci gs n bw bs b (.slice (some ⟨gl, 0, none⟩) xs.length cva) xs S (fun w => if w = x then true else decide (w ∈ xs.take i2)) (aggC (agg ((xs.take i2).map (itV val bn)))) ((wr.drewN nq).setCell ⟨gs, x, none⟩ (.bool true)) ox) := J2
              unfold maxLen at l3 hg3 ho3
              clear hcc ho2 ho3
              clear J J2 l5 hg5 hg6 ho5 ho6 hbx hx
              have v1 : decide ((x : Int) < 0) = false := decide_eq_false (by omega)
              have v2 : decide ((n : Int) ≤ (x : Int)) = false := decide_eq_false (by omega)
              go_wp2
              go_quiet (fail)
              go_upto_region 17 with fail
              have J3 := HJ2.out nq
              obtain ⟨w11, hw11⟩ : ∃ w11, w11 = (wr.drewN nq).setCell ⟨gs, x, none⟩ (.bool true) := ⟨_, rfl⟩
              rw [← hw11] at J3 ⊢
              obtain ⟨G, hG⟩ : ∃ G, G = agg ((xs.take i2).map (itV val bn)) := ⟨_, rfl⟩
              rw [← hG] at J3
              have HG : Hid (G = agg ((xs.take i2).map (itV val bn))) := hG
              have hGs := agg_sumV val bn B.vals (xs.take i2)
              rw [← hG, List.length_take, Nat.min_eq_left (by omega)] at hGs
              have hvx := B.vals x
              clear hw11 hG HJ2 yl yi ys yf k0 k1 k2 k3 kf v1 v2
              obtain ⟨k0, k1, k2, k3, kf⟩ := J3.k.blk.cells4
              obtain ⟨gq, cq, hvl, _, _, _, _, l5, _⟩ := J3.ls.pos (by omega)
              simp only [Value.slice.injEq, Option.some.injEq, Addr.mk.injEq, and_true, true_and] at hvl
              obtain ⟨rfl, rfl⟩ := hvl
              have yl := (l5 i2 (by omega)).trans (show (intsL xs)[i2]? = some (.int .i64 (xs[i2] : Nat)) by simp [intsL, hil])
              rw [← HXE.out] at yl
              obtain ⟨gq, cq, hvl, _, vc, vm, _, v5, _⟩ := J3.k.vals.pos (by omega)
              simp only [Value.slice.injEq, Option.some.injEq, Addr.mk.injEq, and_true, true_and] at hvl
              obtain ⟨rfl, rfl⟩ := hvl
              have yv := (v5 x (by omega)).trans (intsZ_get val hxn)
              obtain ⟨gq, cq, hvl, _, oc, om, _, o5, _⟩ := J3.k.ons.pos (by omega)
              simp only [Value.slice.injEq, Option.some.injEq, Addr.mk.injEq, and_true, true_and] at hvl
              obtain ⟨rfl, rfl⟩ := hvl
              have yo := (o5 x (by omega)).trans (boolsL_get bn hxn)
              unfold maxLen at vm om
              clear l5 v5 o5
              have HJ3 : Hid (StJ w o pb p n Y val mk bn l la (.slice ao l.length cap) gv cv gb cb gi ci gs n bw bs b (.slice (some ⟨gl, 0, none⟩) xs.length cva) xs S (fun w => if w = x then true else decide (w ∈ xs.take i2)) (aggC G) w11 ox) := J3
              go_quiet (fail)
              have HJ4 : Hid (StJ w o pb p n Y val mk bn l la (.slice ao l.length cap) gv cv gb cb gi ci gs n bw bs b (.slice (some ⟨gl, 0, none⟩) xs.length cva) xs S (fun w => if w = x then true else decide (w ∈ xs.take i2)) (aggC G) (w11.drewN nq) ox) := HJ3.out.drewN nq
              clear HJ3 J3 k0 k1 k2 k3 kf yl yv yo
              obtain ⟨w12, hw12⟩ : ∃ w12, w12 = w11.drewN nq := ⟨_, rfl⟩
              rw [← hw12] at HJ4 ⊢
              clear hw12
              obtain ⟨g0, g1, g2, g3, g4, gf⟩ := HJ4.out.want.cells5
              go_upto_region 18 with fail
              go_cut [132] (fun c wx => c = .bool (decide (i2 = 0 ∨ val x < G.least)) ∧ wx = w12)
              case first =>
                by_cases h0 : i2 = 0
                · have v1 : ((i2 : Int) == 0) = true := by simp [h0]
                  go_wp2
                  go_meet
                  exact ⟨by simp [h0], rfl⟩
                · have v1 : ((i2 : Int) == 0) = false := by simp only [beq_eq_false_iff_ne, ne_eq]; omega
                  by_cases h2 : val x < G.least
                  all_goals
                    go_wp2
                    go_meet
                    exact ⟨by simp [h0, h2], rfl⟩
              case rest =>
              obtain ⟨rfl, rfl⟩ := hcut
              obtain ⟨d1, hd1⟩ : ∃ d1, d1 = decide (i2 = 0 ∨ val x < G.least) := ⟨_, rfl⟩
              rw [← hd1]
              have HD1 : Hid (d1 = decide (i2 = 0 ∨ val x < G.least)) := hd1
              clear hd1
              go_upto_if 132 with fail
              go_cut [] (fun wx => StJ w o pb p n Y val mk bn l la (.slice ao l.length cap) gv cv gb cb gi ci gs n bw bs b (.slice (some ⟨gl, 0, none⟩) xs.length cva) xs S (fun w => if w = x then true else decide (w ∈ xs.take i2)) #[.int .i64 0, .int .i64 G.sum, .int .i64 (if d1 then val x else G.least), .int .i64 G.most, .int .i64 G.flags] wx ox)
              case first =>
                cases d1
                · go_wp2
                  go_meet
                  exact HJ4.out
                · go_wp2
                  go_meet
                  exact HJ4.out.wish hla 2 (.int .i64 (val x))
              case rest =>
              obtain ⟨LE, hLE⟩ : ∃ LE, LE = (if d1 then val x else G.least) := ⟨_, rfl⟩
              rw [← hLE] at hcut
              have HLE : Hid (LE = if d1 then val x else G.least) := hLE
              have HJ5 : Hid (StJ w o pb p n Y val mk bn l la (.slice ao l.length cap) gv cv gb cb gi ci gs n bw bs b (.slice (some ⟨gl, 0, none⟩) xs.length cva) xs S (fun w => if w = x then true else decide (w ∈ xs.take i2)) #[.int .i64 0, .int .i64 G.sum, .int .i64 LE, .int .i64 G.most, .int .i64 G.flags] wc ox) := hcut
              clear hLE hcut g0 g1 g2 g3 g4 gf HJ4
              obtain ⟨g0, g1, g2, g3, g4, gf⟩ := HJ5.out.want.cells5
              go_upto_region 20 with fail
              go_cut [142] (fun c wx => c = .bool (decide (i2 = 0 ∨ G.most < val x)) ∧ wx = wc)
              case first =>
                by_cases h0 : i2 = 0
                · have v1 : ((i2 : Int) == 0) = true := by simp [h0]
                  go_wp2
                  go_meet
                  exact ⟨by simp [h0], rfl⟩
                · have v1 : ((i2 : Int) == 0) = false := by simp only [beq_eq_false_iff_ne, ne_eq]; omega
                  by_cases h2 : G.most < val x
                  all_goals
                    go_wp2
                    go_meet
                    exact ⟨by simp [h0, h2], rfl⟩
              case rest =>
              obtain ⟨rfl, rfl⟩ := hcut
              obtain ⟨d2, hd2⟩ : ∃ d2, d2 = decide (i2 = 0 ∨ G.most < val x) := ⟨_, rfl⟩
              rw [← hd2]
              have HD2 : Hid (d2 = decide (i2 = 0 ∨ G.most < val x)) := hd2
              clear hd2
              go_upto_if 142 with fail
              go_cut [] (fun wx => StJ w o pb p n Y val mk bn l la (.slice ao l.length cap) gv cv gb cb gi ci gs n bw bs b (.slice (some ⟨gl, 0, none⟩) xs.length cva) xs S (fun w => if w = x then true else decide (w ∈ xs.take i2)) #[.int .i64 0, .int .i64 G.sum, .int .i64 LE, .int .i64 (if d2 then val x else G.most), .int .i64 G.flags] wx ox)
              case first =>
                cases d2
                · go_wp2
                  go_meet
                  exact HJ5.out
                · go_wp2
                  go_meet
                  exact HJ5.out.wish hla 3 (.int .i64 (val x))
              case rest =>
              obtain ⟨MO, hMO⟩ : ∃ MO, MO = (if d2 then val x else G.most) := ⟨_, rfl⟩
              rw [← hMO] at hcut
              have HMO : Hid (MO = if d2 then val x else G.most) := hMO
              have HJ6 := hcut.wish hla 1 (.int .i64 (G.sum + val x))
              obtain ⟨g0, g1, g2, g3, g4, gf⟩ := hcut.want.cells5
              clear hMO hcut HJ5
              have HJ7 : Hid (StJ w o pb p n Y val mk bn l la (.slice ao l.length cap) gv cv gb cb gi ci gs n bw bs b (.slice (some ⟨gl, 0, none⟩) xs.length cva) xs S (fun w => if w = x then true else decide (w ∈ xs.take i2)) #[.int .i64 0, .int .i64 (G.sum + val x), .int .i64 LE, .int .i64 MO, .int .i64 G.flags] (wc.setCell ⟨bw, 1, none⟩ (.int .i64 (G.sum + val x))) ox) := HJ6
              have HF : Hid (∀ wx, StJ w o pb p n Y val mk bn l la (.slice ao l.length cap) gv cv gb cb gi ci gs n bw bs b (.slice (some ⟨gl, 0, none⟩) xs.length cva) xs S (fun w => if w = x then true else decide (w ∈ xs.take i2)) #[.int .i64 0, .int .i64 (G.sum + val x), .int .i64 LE, .int .i64 MO, .int .i64 ((if bn x then 1 else G.flags : Nat) : Int)] wx ox → StI w o pb p n Y val mk bn l la (.slice ao l.length cap) gv cv gb cb gi ci gs n bw bs b (.slice (some ⟨gl, 0, none⟩) xs.length cva) xs S (i2 + 1) wx ox) := fun wx J => by
                have e1 : (fun w => if w = x then true else decide (w ∈ xs.take i2)) = fun u => decide (u ∈ xs.take (i2 + 1)) := by
                  funext u
                  rw [HT.out]
                  by_cases e : u = x <;> simp [e]
                have e2 : aggC (agg ((xs.take (i2 + 1)).map (itV val bn))) = #[.int .i64 0, .int .i64 (G.sum + val x), .int .i64 LE, .int .i64 MO, .int .i64 ((if bn x then 1 else G.flags : Nat) : Int)] := by
                  have hlt : (xs.take i2).length = i2 := by rw [List.length_take, Nat.min_eq_left (by omega)]
                  have eL : (if i2 = 0 then val x else min G.least (val x)) = LE := by
                    rw [HLE.out, HD1.out]; by_cases h0 : i2 = 0 <;> by_cases h1 : val x < G.least <;> simp [h0, h1] <;> omega
                  have eM : (if i2 = 0 then val x else max G.most (val x)) = MO := by
                    rw [HMO.out, HD2.out]; by_cases h0 : i2 = 0 <;> by_cases h1 : G.most < val x <;> simp [h0, h1] <;> omega
                  rw [HT.out, aggV_next, ← HG.out, hlt, eL, eM]
                  rfl
                rw [e1, ← e2] at J
                exact J
              clear HJ6
              go_upto_region 23 with fail
              obtain ⟨w13, hw13⟩ : ∃ w13, w13 = wc.setCell ⟨bw, 1, none⟩ (.int .i64 (G.sum + val x)) := ⟨_, rfl⟩
              rw [← hw13] at HJ7 ⊢
              clear hw13 g0 g1 g2 g3 g4 gf
              obtain ⟨k0, k1, k2, k3, kf⟩ := HJ7.out.k.blk.cells4
              obtain ⟨gq, cq, hvl, _, _, _, _, l5, _⟩ := HJ7.out.ls.pos (by omega)
              simp only [Value.slice.injEq, Option.some.injEq, Addr.mk.injEq, and_true, true_and] at hvl
              obtain ⟨rfl, rfl⟩ := hvl
              have yl := (l5 i2 (by omega)).trans (show (intsL xs)[i2]? = some (.int .i64 (xs[i2] : Nat)) by simp [intsL, hil])
              rw [← HXE.out] at yl
              obtain ⟨gq, cq, hvl, _, oc, om, _, o5, _⟩ := HJ7.out.k.ons.pos (by omega)
              simp only [Value.slice.injEq, Option.some.injEq, Addr.mk.injEq, and_true, true_and] at hvl
              obtain ⟨rfl, rfl⟩ := hvl
              have yo := (o5 x (by omega)).trans (boolsL_get bn hxn)
              unfold maxLen at om
              clear l5 o5
              obtain ⟨bx, hbx⟩ : ∃ bx, bx = bn x := ⟨_, rfl⟩
              rw [← hbx] at yo HF
              clear hbx
              go_quiet (fail)
              have HJ8 : Hid (StJ w o pb p n Y val mk bn l la (.slice ao l.length cap) gv cv gb cb gi ci gs n bw bs b (.slice (some ⟨gl, 0, none⟩) xs.length cva) xs S (fun w => if w = x then true else decide (w ∈ xs.take i2)) #[.int .i64 0, .int .i64 (G.sum + val x), .int .i64 LE, .int .i64 MO, .int .i64 G.flags] (w13.drewN nq) ox) := HJ7.out.drewN nq
              clear HJ7 k0 k1 k2 k3 kf yl yo
              obtain ⟨w14, hw14⟩ : ∃ w14, w14 = w13.drewN nq := ⟨_, rfl⟩
              rw [← hw14] at HJ8 ⊢
              clear hw14
              obtain ⟨g0, g1, g2, g3, g4, gf⟩ := HJ8.out.want.cells5
              cases bx
              · have R := HF.out _ HJ8.out
                clear HJ8 HF g0 g1 g2 g3 g4 gf
                go_wp2
                go_roundg (xs.length - (i2 + 1))
                case measure => omega
                case rel => exact ⟨i2 + 1, by go_num, by omega, rfl, ox, R⟩
              · have R := HF.out _ (HJ8.out.wish hla 4 (.int .i64 1))
                clear HJ8 HF
                go_wp2
                go_roundg (xs.length - (i2 + 1))
                case measure => omega
                case rel => exact ⟨i2 + 1, by go_num, by omega, rfl, ox, R⟩
          · as_aux_lemma =>
              obtain rfl : i2 = xs.length := by omega
              obtain ⟨sn, hsn⟩ : ∃ sn : Nat → Bool, sn = (fun u => decide (u ∈ xs.take xs.length)) := ⟨_, rfl⟩
              have J2 : StJ w o pb p n Y val mk bn l la (.slice ao l.length cap) gv cv gb cb gi ci gs n bw bs b (.slice av xs.length cva) xs S sn (aggC S) wr ox := by
                have eW : aggC (agg ((xs.take xs.length).map (itV val bn))) = aggC S := by rw [List.take_length, ← HS.out]
                have := J
                unfold StI at this
                rw [eW] at this
                rw [hsn]
                exact this
              clear J hsn hil
              go_wp2
              go_loopg [15, 16] n (fun gh vm vu wy => ∃ u2 : Nat, vm = .int .i64 (manyY Y q u2 : Nat) ∧ vu = .int .i64 (u2 : Nat) ∧ u2 ≤ n ∧ gh = n - u2 ∧ ∃ ox, StJ w o pb p n Y val mk bn l la (.slice ao l.length cap) gv cv gb cb gi ci gs n bw bs b (.slice av xs.length cva) xs S sn (aggC S) wy ox)
              case atStart => exact ⟨0, by simp [manyY], by go_num, by omega, by omega, ox, J2⟩
              case round =>
                clear J2
                obtain ⟨u2, rfl, rfl, hu2, rfl, oy, J⟩ := hrel
                obtain ⟨k0, k1, k2, k3, kf⟩ := J.k.blk.cells4
                have hml := manyY_le Y q u2
                have hmn := manyY_next Y q u2
                by_cases hun : u2 < n
                · have huI : (u2 : Int) < (n : Int) := by omega
                  have hsa := same_t _ _ 1 p n Y _ u2 q J.t hun hqn
                  have hbu : b u2 = decide (Y u2 = Y q) := by
                    by_cases h : Y u2 = Y q
                    · rw [decide_eq_true h]; exact (HB.out u2 hun).2 h
                    · rw [decide_eq_false h]; exact Bool.eq_false_iff.2 (fun hh => h ((HB.out u2 hun).1 hh))
                  have HJT : Hid (∀ wx o2, Tt wx o2 1 p n Y (Dm val mk) → Step (TL 1) wr o2 wx o2 → True) := fun _ _ _ _ => trivial
                  have HJ : Hid (StJ w o pb p n Y val mk bn l la (.slice ao l.length cap) gv cv gb cb gi ci gs n bw bs b (.slice av xs.length cva) xs S sn (aggC S) wr oy) := J
                  obtain ⟨mm, hmm⟩ : ∃ mm, mm = manyY Y q u2 := ⟨_, rfl⟩
                  rw [← hmm] at hml hmn ⊢
                  have HM2 : Hid (manyY Y q (u2 + 1) = mm + (if Y u2 = Y q then 1 else 0)) := hmn
                  clear J hmn hmm HJT
                  go_wp2_with fail
                  refine hsa.mono ?_
                  rintro e w15 ⟨rfl, o15, T15, s15⟩
                  have J := HJ.out.tour hla T15 s15
                  obtain ⟨g1, c1, hv1, hg1, hg2, hg3, hg4, hg5, hg6⟩ := J.inn.pos (by omega)
                  simp only [Value.slice.injEq, Option.some.injEq, Addr.mk.injEq, and_true, true_and] at hv1
                  obtain ⟨rfl, rfl⟩ := hv1
                  have yi := (hg5 _ (by omega)).trans (boolsL_get b hun)
                  rw [hbu] at yi
                  have HJ : Hid (StJ w o pb p n Y val mk bn l la (.slice ao l.length cap) gv cv gb cb gi ci gs n bw bs b (.slice av xs.length cva) xs S sn (aggC S) w15 o15) := J
                  unfold maxLen at hg3
                  clear J hsa T15 s15 hg5 hg6 hbu k0 k1 k2 k3 kf
                  by_cases hyy : Y u2 = Y q
                  · rw [decide_eq_true hyy] at yi ⊢
                    rw [if_pos hyy] at HM2
                    go_wp2
                    go_roundg (n - (u2 + 1))
                    case measure => omega
                    case rel => exact ⟨u2 + 1, by rw [HM2.out]; go_num, by go_num, by omega, rfl, o15, HJ.out⟩
                  · rw [decide_eq_false hyy] at yi ⊢
                    rw [if_neg hyy] at HM2
                    go_wp2
                    go_roundg (n - (u2 + 1))
                    case measure => omega
                    case rel => exact ⟨u2 + 1, by rw [HM2.out]; go_num, by go_num, by omega, rfl, o15, HJ.out⟩
                · obtain rfl : u2 = n := by omega
                  rw [HM.out]
                  obtain ⟨g0, g1, g2, g3, g4, gf⟩ := J.want.cells5
                  obtain ⟨s0, s1, s2, s3, s4, sf⟩ := J.sum.cells5
                  have R : StO w o pb p u2 Y val mk bn l la (.slice ao l.length cap) gv cv gb cb wr := ⟨oy, J.t, J.k, J.st⟩
                  have hm2 : ((S.flags : Int)).tmod 2 = (S.flags : Int) := by rcases hSf with h | h <;> rw [h] <;> rfl
                  clear J hml hmn
                  go_wp2
                  go_roundg (u2 - (q + 1))
                  case measure => omega
                  case rel => exact ⟨q + 1, by go_num, by omega, rfl, R⟩
    · have HB := t4
      clear T4 K4 t4
      go_wp2
      go_ret
      exact ⟨rfl, o4, HB⟩

end Go.Proofs.Ytnpfagpgploolaa
