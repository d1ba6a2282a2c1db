/- The walk of the law SplayPrefix. -/
import Derived.Test.YthnocaiehhcdeabRowF
import Derived.Test.YthnocaiehhcdeabStands
import Derived.Test.YthnocaiehhcdeabCut
import Derived.Test.YthnocaiehhcdeabAdded
namespace Go.Proofs.Ythnocaiehhcdeab
open Go.ChangeShapes Go.WideShapes Go.ChangeAt Go.RowKit
set_option linter.unusedVariables false

/-- A block that holds what some nodes come to. -/
def AgB (w : World) (o : Nat → Nat) (i b : Nat) (G : Ag) : Prop := Blk w o i b (.cells #[.int .i64 G.count, .int .i64 G.sum, .int .i64 G.least, .int .i64 G.most, .int .i64 G.flags] 30 (0, 0))
def agCells (w : World) (b : Nat) (G : Ag) : Prop := w.cell? ⟨b, 0, none⟩ = some (.int .i64 G.count) ∧ w.cell? ⟨b, 1, none⟩ = some (.int .i64 G.sum) ∧ w.cell? ⟨b, 2, none⟩ = some (.int .i64 G.least) ∧ w.cell? ⟨b, 3, none⟩ = some (.int .i64 G.most) ∧ w.cell? ⟨b, 4, none⟩ = some (.int .i64 G.flags)
theorem AgB.cells {w : World} {o : Nat → Nat} {i b : Nat} {G : Ag} (h : AgB w o i b G) : agCells w b G := by
  obtain ⟨c0, c1, c2, c3, c4, _⟩ := Blk.cells5 h
  exact ⟨c0, c1, c2, c3, c4⟩
theorem AgB.step {I : Nat → Prop} {w w' : World} {o o' : Nat → Nat} {i b : Nat} {G : Ag} (h : AgB w o i b G) (s : Step I w o w' o') (hi : ¬ I i) : AgB w' o' i b G := Blk.step h s hi
theorem AgB.new (w : World) (o : Nat → Nat) (i : Nat) (G : Ag) : AgB (w.alloc (.cells #[.int .i64 G.count, .int .i64 G.sum, .int .i64 G.least, .int .i64 G.most, .int .i64 G.flags] 30)) (newLab w o i) i w.heap.size G := ⟨heap_alloc_new w _, newLab_new (Nat.le_refl _)⟩
/-- The state of the loop. -/
def PrefS (w : World) (p n : Nat) (xs : List Nat) (it : Nat → It) (v : Value) (bw : Nat) (G : Ag) (wr : World) : Prop :=
  ∃ o' S, Fo wr o' 1 p 1024 n [] it S ∧ One n S xs ∧ Row wr o' 2002 3 1 v n (intsL xs) ∧ AgB wr o' 2010 bw G ∧ Step Pos w o0 wr o'

theorem row_same {w : World} {o : Nat → Nat} {i g n cap : Nat} {ys : List Nat} (h : Row w o i 3 1 (.slice (some ⟨g, 0, none⟩) n cap) n (intsL ys)) (hn : ys.length = n) (h0 : 0 < n) : o g = i ∧ g < w.heap.size ∧ n ≤ cap ∧ cap ≤ maxLen ∧ ∀ j (hj : j < ys.length), w.cell? ⟨g, j, none⟩ = some (.int .i64 (ys[j] : Nat)) := by
  obtain ⟨g', cap', hv', h1, h2, h3, h4, hcell', _⟩ := h.pos h0
  simp only [Value.slice.injEq, Option.some.injEq, Addr.mk.injEq, and_true, true_and] at hv'
  obtain ⟨rfl, rfl⟩ := hv'
  exact ⟨h1, h4, h2, h3, fun j hj => by rw [hcell' j (by omega)]; exact intsL_get ys j hj⟩

set_option maxRecDepth 100000 in
set_option maxHeartbeats 8000000 in
theorem prefix_walk (w : World) (a0 ah ac : Option Addr) (len0 cap0 lenh caph lenc capc : Nat) (f : Nat → RawIt) (z y : Nat → Int) (ha0 : ArgIts w a0 len0 f) (hah : Arg w ah lenh z) (hac : Arg w ac lenc y) (h1 : len0 ≤ 9223372036854775807) (h2 : lenh ≤ 9223372036854775807) (h3 : lenc ≤ 9223372036854775807) :
    Calls Try.prog 3 #[.slice a0 len0 cap0, .slice ah lenh caph, .slice ac lenc capc] w fun e w' => e = .returned (.bool true) ∧ Below w.heap.size w w' := by
  have npos : ¬ Pos 0 := by unfold Pos; omega
  have nF : ∀ k, 2000 ≤ k → ¬ FL 1 k := fun k hk h => by have := h.2; omega
  go_enter Try.func3, Try.ntmps3
  go_wp2_with fail
  refine (awake_any w).mono ?_
  rintro e w1 ⟨rfl, hb1⟩
  have t1 : Step Pos w o0 w1 o0 := Step.ofBelow o0 hb1
  go_wp2_with fail
  refine (items_any w1 o0 a0 len0 cap0 100 2001 f (ha0.below hb1) h1 (by omega) (fun k _ => by unfold o0; omega) (by omega)).mono ?_
  rintro e w2 ⟨vi, its, o2, rfl, ⟨hi1, hi2⟩, hmay, ri, s2⟩
  have t2 := t1.trans (s2.mono (J := Pos) fun k hk => by unfold Pos; omega)
  have H2 := hah.at0.step t2 npos
  have hvi := ri.form
  obtain ⟨ai, ci, rfl⟩ := hvi
  clear t1 s2 hb1
  go_wp2_with fail
  refine (row_any w2 o2 2002 2001 _ its ah lenh caph z ri hmay (by omega) H2 h2 (nF _ (by omega)) (by omega) (by omega) (nF _ (by omega))).mono ?_
  rintro e w3 ⟨p, v3, xs, o3, it, S, rfl, F3, O3, _, r3, s3⟩
  have t3 := t2.trans (s3.mono (J := Pos) fun k hk => by unfold Pos; rcases hk with hk | hk; have := hk.1; omega; omega)
  have hxl := O3.len
  rw [hxl] at r3
  obtain ⟨N, hN⟩ : ∃ N, N = its.length := ⟨_, rfl⟩
  rw [← hN] at r3 F3 O3 hxl hi1 hi2
  obtain ⟨g, cap, rfl, hrest⟩ := r3.pos hi1
  clear hrest
  obtain ⟨hg3, hgl3, hcap3, hmx3, hcell3⟩ := row_same r3 hxl hi1
  have h00 : 0 < xs.length := by omega
  have c30 := hcell3 0 h00
  have hsum := sumInF w3 o3 1 p 1024 N [] it S xs[0] F3 (O3.live (List.getElem_mem _))
  rw [O3.seq _ (List.getElem_mem _)] at hsum
  have hmayx : ∀ k ∈ xs, (it k).may := fun k hk => F3.may (O3.live hk)
  obtain ⟨G, hG⟩ : ∃ G, G = agg (xs.map it) := ⟨_, rfl⟩
  rw [← hG] at hsum
  unfold aggV at hsum
  have HG : Hid (G = agg (xs.map it) ∧ ∀ k ∈ xs, (it k).may) := ⟨hG, hmayx⟩
  obtain ⟨x0, hx0⟩ : ∃ x, x = xs[0] := ⟨_, rfl⟩
  rw [← hx0] at hsum c30
  have HO : Hid (One N S xs) := O3
  clear t2 s3 H2 ri hmay F3 O3 hN hcell3 hG hmayx hx0
  go_wp2_with fail
  refine hsum.mono ?_
  rintro e w4 ⟨rfl, o4, F4, S4⟩
  have n5 := newStep (fun _ => False) w4 o4 2010 (.cells #[.int .i64 G.count, .int .i64 G.sum, .int .i64 G.least, .int .i64 G.most, .int .i64 G.flags] 30)
  have START : PrefS w p N xs it (.slice (some ⟨g, 0, none⟩) N cap) w4.heap.size G (w4.alloc (.cells #[.int .i64 G.count, .int .i64 G.sum, .int .i64 G.least, .int .i64 G.most, .int .i64 G.flags] 30)) :=
    ⟨newLab w4 o4 2010, S, F4.quiet n5, HO.out, (r3.step S4 (nF _ (by omega))).step n5 id, AgB.new w4 o4 2010 G, (t3.trans (S4.posF (by omega))).trans n5.pos0⟩
  clear hsum F4 S4 n5 r3 t3 HO c30 hg3 hgl3
  obtain ⟨bw, hbw⟩ : ∃ bw, bw = w4.heap.size := ⟨_, rfl⟩
  rw [← hbw] at START
  go_wp2
  rw [← hbw]
  go_loopw [12] (fun u wr => ∃ k : Nat, u = .int .i64 (k : Nat) ∧ k ≤ lenc ∧ k ≤ 40 ∧ PrefS w p N xs it (.slice (some ⟨g, 0, none⟩) N cap) bw G wr) (fun u _ => 40 - (intOf u).toNat)
  case atStart => exact ⟨0, by go_num, by omega, by omega, START⟩
  case round =>
    clear START hbw
    obtain ⟨k, rfl, hk, hk40, o6, S6, F6, O6, r6, B6, t6⟩ := hrel
    obtain ⟨hg, hgl, hcap, hmx, hcell⟩ := row_same r6 hxl hi1
    unfold maxLen at hmx
    by_cases hlt : k < lenc ∧ k < 40
    · obtain ⟨hlt1, hlt2⟩ := hlt
      obtain ⟨bc, offc, rfl, hbc, hoc, hcc, hyb1, hyb2⟩ := hac.at0.step t6 npos k hlt1
      have hpk := pick_any (y k) N wr hyb1 hyb2 hi1 (by omega)
      go_wp2_with fail
      refine hpk.mono ?_
      rintro e w7 ⟨r, hr, rfl, hw7⟩
      obtain rfl : wr = w7 := hw7.symm
      by_cases r0 : r = 0
      · subst r0
        have G1 : PrefS w p N xs it (.slice (some ⟨g, 0, none⟩) N cap) bw G wr := ⟨o6, S6, F6, O6, r6, B6, t6⟩
        clear hpk F6 O6 r6 B6 t6 hcell
        go_wp2
        go_roundw
        case rel => (try ((repeat apply Exists.intro); refine ⟨?_, rfl⟩)); exact ⟨k + 1, by go_num, by omega, by omega, G1⟩
        case measure => simp [intOf]; omega
      · obtain ⟨m, rfl⟩ : ∃ m, r = m + 1 := ⟨r - 1, by omega⟩
        have hrx : m + 1 < xs.length := by omega
        have hm1 : m < xs.length := by omega
        have hlast : xs.length - 1 < xs.length := by omega
        have ecut := cut_at hrx
        have inA : ∀ j (hj : j < xs.length), j < m + 1 → xs[j] ∈ xs.take (m + 1) := fun j hj hjm => by
          rw [List.mem_take_iff_getElem]; exact ⟨j, by omega, rfl⟩
        have inB : ∀ j (hj : j < xs.length), m + 1 ≤ j → xs[j] ∈ xs[m + 1] :: xs.drop (m + 1 + 1) := fun j hj hjm => by
          rw [← List.drop_eq_getElem_cons hrx, List.mem_drop_iff_getElem]
          exact ⟨j - (m + 1), by omega, by congr 1; omega⟩
        have cA := fun j hj hjm => O6.cutL ecut (inA j hj hjm)
        have cB := fun j hj hjm => O6.cutR ecut (inB j hj hjm)
        have hno : xs.take (m + 1) ≠ xs[m + 1] :: xs.drop (m + 1 + 1) := fun e => by
          have h1 := inA 0 h00 (by omega)
          have h2 := O6.nodup
          rw [ecut] at h2
          exact (List.nodup_append.1 h2).2.2 _ h1 _ (by rw [← e]; exact h1) rfl
        have O7 := O6.again ecut (inA m hm1 (by omega)) (inB _ hlast (by omega))
        have lm := O6.live (List.getElem_mem hm1)
        have ll := O6.live (List.getElem_mem hlast)
        have l0 := O6.live (List.getElem_mem h00)
        have lr := O6.live (List.getElem_mem hrx)
        have sr := O6.seq _ (List.getElem_mem hrx)
        have hsp := splitInF wr o6 1 p 1024 N [] it S6 xs[m + 1] (xs.take (m + 1)) (xs.drop (m + 1 + 1)) F6 lr (by rw [sr]; exact ecut)
        have hjn : splitS S6 (xs.take (m + 1)) xs[m + 1] (xs.drop (m + 1 + 1)) xs[m] ≠ splitS S6 (xs.take (m + 1)) xs[m + 1] (xs.drop (m + 1 + 1)) xs[xs.length - 1] := by
          rw [cA m hm1 (by omega), cB _ hlast (by omega)]; exact hno
        have HS1 : Hid (∀ wx ox, Fo wx ox 1 p 1024 N [] it (splitS S6 (xs.take (m + 1)) xs[m + 1] (xs.drop (m + 1 + 1))) → Calls Try.prog 8 #[.pointer (some ⟨p, 0, none⟩), .int .i64 (xs[0] : Nat)] wx fun e w' => e = .returned (.tuple #[aggV (agg ((xs.take (m + 1)).map it)), .int .i64 0]) ∧ ∃ o', Fo w' o' 1 p 1024 N [] it (splitS S6 (xs.take (m + 1)) xs[m + 1] (xs.drop (m + 1 + 1))) ∧ Step (FL 1) wx ox w' o') := fun wx ox Fx => by
          have := sumInF wx ox 1 p 1024 N [] it _ xs[0] Fx l0
          rw [cA 0 h00 (by omega)] at this
          exact this
        have HS2 : Hid (∀ wx ox, Fo wx ox 1 p 1024 N [] it (splitS S6 (xs.take (m + 1)) xs[m + 1] (xs.drop (m + 1 + 1))) → Calls Try.prog 8 #[.pointer (some ⟨p, 0, none⟩), .int .i64 (xs[m + 1] : Nat)] wx fun e w' => e = .returned (.tuple #[aggV (agg ((xs.drop (m + 1)).map it)), .int .i64 0]) ∧ ∃ o', Fo w' o' 1 p 1024 N [] it (splitS S6 (xs.take (m + 1)) xs[m + 1] (xs.drop (m + 1 + 1))) ∧ Step (FL 1) wx ox w' o') := fun wx ox Fx => by
          have := sumInF wx ox 1 p 1024 N [] it _ xs[m + 1] Fx lr
          rw [cB (m + 1) hrx (by omega), ← List.drop_eq_getElem_cons hrx] at this
          exact this
        have HJ : Hid (∀ wx ox, Fo wx ox 1 p 1024 N [] it (splitS S6 (xs.take (m + 1)) xs[m + 1] (xs.drop (m + 1 + 1))) → Calls Try.prog 11 #[.pointer (some ⟨p, 0, none⟩), .int .i64 (xs[m] : Nat), .int .i64 (xs[xs.length - 1] : Nat)] wx fun e w' => e = .returned (.int .i64 0) ∧ ∃ o', Fo w' o' 1 p 1024 N [] it (joinS (splitS S6 (xs.take (m + 1)) xs[m + 1] (xs.drop (m + 1 + 1))) xs[m] xs[xs.length - 1]) ∧ Step (FL 1) wx ox w' o') := fun wx ox Fx => joinInF wx ox 1 p 1024 N [] it _ _ _ Fx lm ll hjn
        have HS3 : Hid (∀ wx ox, Fo wx ox 1 p 1024 N [] it (joinS (splitS S6 (xs.take (m + 1)) xs[m + 1] (xs.drop (m + 1 + 1))) xs[m] xs[xs.length - 1]) → Calls Try.prog 8 #[.pointer (some ⟨p, 0, none⟩), .int .i64 (xs[m + 1] : Nat)] wx fun e w' => e = .returned (.tuple #[aggV G, .int .i64 0]) ∧ ∃ o', Fo w' o' 1 p 1024 N [] it (joinS (splitS S6 (xs.take (m + 1)) xs[m + 1] (xs.drop (m + 1 + 1))) xs[m] xs[xs.length - 1]) ∧ Step (FL 1) wx ox w' o') := fun wx ox Fx => by
          have := sumInF wx ox 1 p 1024 N [] it _ xs[m + 1] Fx lr
          rw [O7.seq _ (List.getElem_mem hrx), ← HG.out.1] at this
          exact this
        have HADD : Hid (∀ wx ox, Calls Try.prog 12 #[aggV (agg ((xs.take (m + 1)).map it)), aggV (agg ((xs.drop (m + 1)).map it))] wx fun e w' => e = .returned (aggV G) ∧ Step (fun _ => False) wx ox w' ox) := fun wx ox => by
          have := added_any wx ox ((xs.take (m + 1)).map it) ((xs.drop (m + 1)).map it) (fun x hx => by obtain ⟨k, hk, rfl⟩ := List.mem_map.1 hx; exact HG.out.2 k (List.mem_of_mem_take hk)) (fun x hx => by obtain ⟨k, hk, rfl⟩ := List.mem_map.1 hx; exact HG.out.2 k (List.mem_of_mem_drop hk)) (by simp; omega) (by simp; omega)
          rw [← List.map_append, List.take_append_drop, ← HG.out.1] at this
          exact this
        have HC4 : Hid (∀ wx ox, Step (fun k => FL 1 k) wr o6 wx ox → wx.cell? ⟨g, m, none⟩ = some (.int .i64 (xs[m] : Nat)) ∧ wx.cell? ⟨g, m + 1, none⟩ = some (.int .i64 (xs[m + 1] : Nat)) ∧ wx.cell? ⟨g, N - 1, none⟩ = some (.int .i64 (xs[xs.length - 1] : Nat)) ∧ wx.cell? ⟨g, 0, none⟩ = some (.int .i64 (xs[0] : Nat))) := fun wx ox s => by
          have hc := fun j (hj : j < xs.length) => (s.cell hgl (by rw [hg]; exact nF _ (by omega)) j).trans (hcell j hj)
          exact ⟨hc m hm1, hc (m + 1) hrx, by have := hc _ hlast; rw [← hxl]; exact this, hc 0 h00⟩
        obtain ⟨GA, hGA⟩ : ∃ G, G = agg ((xs.take (m + 1)).map it) := ⟨_, rfl⟩
        obtain ⟨GB, hGB⟩ : ∃ G, G = agg ((xs.drop (m + 1)).map it) := ⟨_, rfl⟩
        rw [← hGA] at HS1 HADD
        rw [← hGB] at HS2 HADD
        obtain ⟨xa, hxa⟩ : ∃ x, x = xs[m] := ⟨_, rfl⟩
        obtain ⟨xb, hxb⟩ : ∃ x, x = xs[m + 1] := ⟨_, rfl⟩
        obtain ⟨xl, hxl2⟩ : ∃ x, x = xs[xs.length - 1] := ⟨_, rfl⟩
        obtain ⟨x1, hx1⟩ : ∃ x, x = xs[0] := ⟨_, rfl⟩
        rw [← hxb] at hsp HS1 HS2 HJ HS3 HC4 O7
        rw [← hxa] at HJ HS3 HC4 O7
        rw [← hxl2] at HJ HS3 HC4 O7
        rw [← hx1] at HS1 HC4
        unfold aggV at HS1 HS2 HS3 HADD
        have bm : (m : Int) < (N : Int) := by omega
        have bm1 : (m : Int) + 1 < (N : Int) := by omega
        have bl0 : (0 : Int) ≤ (N : Int) - 1 := by omega
        have bl1 : (N : Int) - 1 < (N : Int) := by omega
        have wm : IntKind.i64.wrap (m : Int) = (m : Int) := by rw [IntKind.wrap_i64]; omega
        have wl : IntKind.i64.wrap ((N : Int) - 1) = (N : Int) - 1 := by rw [IntKind.wrap_i64]; omega
        have tl : ((N : Int) - 1).toNat = N - 1 := by omega
        obtain ⟨y1, y2, y3, y4⟩ := HC4.out _ _ (Step.refl _ _ _)
        have HX : Hid (xs.length = N) := hxl
        have HI : Hid (0 < xs.length) := h00
        clear hpk hGA hGB hxa hxb hxl2 hx1 ecut inA inB cA cB hno lm ll l0 lr sr hjn hrx hm1 hlast hcell F6 O6 hxl h00
        go_wp2_with fail
        refine hsp.mono ?_
        rintro e w8 ⟨rfl, o8, F8, S8⟩
        obtain ⟨z1, z2, z3, z4⟩ := HC4.out _ _ S8
        clear hsp y1 y2 y3 y4
        go_wp2_with fail
        refine (HS1.out _ _ F8).mono ?_
        rintro e w9 ⟨rfl, o9, F9, S9⟩
        have n9 := newStep (fun _ => False) w9 o9 2011 (.cells #[.int .i64 GA.count, .int .i64 GA.sum, .int .i64 GA.least, .int .i64 GA.most, .int .i64 GA.flags] 30)
        have A10 := AgB.new w9 o9 2011 GA
        have F10 := F9.quiet n9
        have S10 := (S8.trans S9).trans (n9.mono (J := FL 1) fun _ h => h.elim)
        obtain ⟨y1, y2, y3, y4⟩ := HC4.out _ _ S10
        clear F8 S8 S9 n9 F9 z1 z2 z3 z4 HS1
        go_wp2_with fail
        refine (HS2.out _ _ F10).mono ?_
        rintro e w11 ⟨rfl, o11, F11, S11⟩
        have n11 := newStep (fun _ => False) w11 o11 2012 (.cells #[.int .i64 GB.count, .int .i64 GB.sum, .int .i64 GB.least, .int .i64 GB.most, .int .i64 GB.flags] 30)
        have B12 := AgB.new w11 o11 2012 GB
        have A12 := (A10.step S11 (nF _ (by omega))).step n11 id
        have F12 := F11.quiet n11
        have S12 := (S10.trans S11).trans (n11.mono (J := FL 1) fun _ h => h.elim)
        have S12d := S12.drew
        have F12d := F12.quiet ((Step.refl (fun _ => False) _ _).drew)
        obtain ⟨z1, z2, z3, z4⟩ := HC4.out _ _ S12
        obtain ⟨q9, hq9⟩ : ∃ q, q = w9.heap.size := ⟨_, rfl⟩
        obtain ⟨q11, hq11⟩ : ∃ q, q = w11.heap.size := ⟨_, rfl⟩
        clear F10 S10 S11 n11 F11 A10 y1 y2 y3 y4 HS2
        go_wp2_with fail
        go_region_held (fun wx => wx.cell? ⟨g, m, none⟩ = some (.int .i64 (xa : Nat)) ∧ wx.cell? ⟨g, m + 1, none⟩ = some (.int .i64 (xb : Nat)) ∧ wx.cell? ⟨g, N - 1, none⟩ = some (.int .i64 (xl : Nat)) ∧ wx.cell? ⟨g, 0, none⟩ = some (.int .i64 (x1 : Nat))) (first | (with_reducible exact HC4.out _ _ S13') | (with_reducible exact HC4.out _ _ S12d)) ((go_at_call 11; refine (HJ.out _ _ F12d).mono ?_; rintro e w13 ⟨rfl, o13, F13, S13⟩; have S13' := S12d.trans S13))
        all_goals
          obtain ⟨y1, y2, y3, y4⟩ := HC4.out _ _ S13'
          have A13 := (A12.step ((Step.refl (fun _ => False) _ _).drew) id).step S13 (nF _ (by omega))
          have B13 := (B12.step ((Step.refl (fun _ => False) _ _).drew) id).step S13 (nF _ (by omega))
          clear F12 F12d S12 S12d S13 A12 B12 z1 z2 z3 z4 HJ
          go_wp2_with fail
          refine (HS3.out _ _ F13).mono ?_
          rintro e w14 ⟨rfl, o14, F14, S14⟩
          have n14 := newStep (fun _ => False) w14 o14 2013 (.cells #[.int .i64 G.count, .int .i64 G.sum, .int .i64 G.least, .int .i64 G.most, .int .i64 G.flags] 30)
          have C15 := AgB.new w14 o14 2013 G
          have A15 := (A13.step S14 (nF _ (by omega))).step n14 id
          have B15 := (B13.step S14 (nF _ (by omega))).step n14 id
          have S15 := (S13'.trans S14).trans (n14.mono (J := FL 1) fun _ h => h.elim)
          have W15 := B6.step S15 (nF _ (by omega))
          have F15 := F14.quiet n14
          clear F13 F14 S13' S14 n14 A13 B13 y1 y2 y3 y4 HS3
          have HC16 : Hid (∀ wx, Step (fun _ => False) (w14.alloc (.cells #[.int .i64 G.count, .int .i64 G.sum, .int .i64 G.least, .int .i64 G.most, .int .i64 G.flags] 30)) (newLab w14 o14 2013) wx (newLab w14 o14 2013) → (wx.cell? ⟨w9.heap.size, 0, none⟩ = some (.int .i64 GA.count) ∧ wx.cell? ⟨w9.heap.size, 1, none⟩ = some (.int .i64 GA.sum) ∧ wx.cell? ⟨w9.heap.size, 2, none⟩ = some (.int .i64 GA.least) ∧ wx.cell? ⟨w9.heap.size, 3, none⟩ = some (.int .i64 GA.most) ∧ wx.cell? ⟨w9.heap.size, 4, none⟩ = some (.int .i64 GA.flags)) ∧ (wx.cell? ⟨w11.heap.size, 0, none⟩ = some (.int .i64 GB.count) ∧ wx.cell? ⟨w11.heap.size, 1, none⟩ = some (.int .i64 GB.sum) ∧ wx.cell? ⟨w11.heap.size, 2, none⟩ = some (.int .i64 GB.least) ∧ wx.cell? ⟨w11.heap.size, 3, none⟩ = some (.int .i64 GB.most) ∧ wx.cell? ⟨w11.heap.size, 4, none⟩ = some (.int .i64 GB.flags)) ∧ (wx.cell? ⟨bw, 0, none⟩ = some (.int .i64 G.count) ∧ wx.cell? ⟨bw, 1, none⟩ = some (.int .i64 G.sum) ∧ wx.cell? ⟨bw, 2, none⟩ = some (.int .i64 G.least) ∧ wx.cell? ⟨bw, 3, none⟩ = some (.int .i64 G.most) ∧ wx.cell? ⟨bw, 4, none⟩ = some (.int .i64 G.flags)) ∧ (wx.cell? ⟨w14.heap.size, 0, none⟩ = some (.int .i64 G.count) ∧ wx.cell? ⟨w14.heap.size, 1, none⟩ = some (.int .i64 G.sum) ∧ wx.cell? ⟨w14.heap.size, 2, none⟩ = some (.int .i64 G.least) ∧ wx.cell? ⟨w14.heap.size, 3, none⟩ = some (.int .i64 G.most) ∧ wx.cell? ⟨w14.heap.size, 4, none⟩ = some (.int .i64 G.flags))) := fun wx s => ⟨(A15.step s id).cells, (B15.step s id).cells, (W15.step s id).cells, (C15.step s id).cells⟩
          have s16 : Step (fun _ => False) (w14.alloc (.cells #[.int .i64 G.count, .int .i64 G.sum, .int .i64 G.least, .int .i64 G.most, .int .i64 G.flags] 30)) (newLab w14 o14 2013) (w14.alloc (.cells #[.int .i64 G.count, .int .i64 G.sum, .int .i64 G.least, .int .i64 G.most, .int .i64 G.flags] 30)).drew (newLab w14 o14 2013) := (Step.refl _ _ _).drew
          have r15 := r6.step S15 (nF _ (by omega))
          have t15 := t6.trans (S15.posF (by omega))
          clear A15 B15 C15 r6 t6 B6 hq9 hq11
          go_wp2_with fail
          go_region_held (fun wx => (wx.cell? ⟨w9.heap.size, 0, none⟩ = some (.int .i64 GA.count) ∧ wx.cell? ⟨w9.heap.size, 1, none⟩ = some (.int .i64 GA.sum) ∧ wx.cell? ⟨w9.heap.size, 2, none⟩ = some (.int .i64 GA.least) ∧ wx.cell? ⟨w9.heap.size, 3, none⟩ = some (.int .i64 GA.most) ∧ wx.cell? ⟨w9.heap.size, 4, none⟩ = some (.int .i64 GA.flags)) ∧ (wx.cell? ⟨w11.heap.size, 0, none⟩ = some (.int .i64 GB.count) ∧ wx.cell? ⟨w11.heap.size, 1, none⟩ = some (.int .i64 GB.sum) ∧ wx.cell? ⟨w11.heap.size, 2, none⟩ = some (.int .i64 GB.least) ∧ wx.cell? ⟨w11.heap.size, 3, none⟩ = some (.int .i64 GB.most) ∧ wx.cell? ⟨w11.heap.size, 4, none⟩ = some (.int .i64 GB.flags)) ∧ (wx.cell? ⟨bw, 0, none⟩ = some (.int .i64 G.count) ∧ wx.cell? ⟨bw, 1, none⟩ = some (.int .i64 G.sum) ∧ wx.cell? ⟨bw, 2, none⟩ = some (.int .i64 G.least) ∧ wx.cell? ⟨bw, 3, none⟩ = some (.int .i64 G.most) ∧ wx.cell? ⟨bw, 4, none⟩ = some (.int .i64 G.flags)) ∧ (wx.cell? ⟨w14.heap.size, 0, none⟩ = some (.int .i64 G.count) ∧ wx.cell? ⟨w14.heap.size, 1, none⟩ = some (.int .i64 G.sum) ∧ wx.cell? ⟨w14.heap.size, 2, none⟩ = some (.int .i64 G.least) ∧ wx.cell? ⟨w14.heap.size, 3, none⟩ = some (.int .i64 G.most) ∧ wx.cell? ⟨w14.heap.size, 4, none⟩ = some (.int .i64 G.flags))) (first | (with_reducible exact HC16.out _ s17) | (with_reducible exact HC16.out _ s16)) ((go_at_call 12; refine (HADD.out _ (newLab w14 o14 2013)).mono ?_; rintro e w17 ⟨rfl, s17a⟩; have s17 := s16.trans s17a))
          all_goals
            have G1 : PrefS w p N xs it (.slice (some ⟨g, 0, none⟩) N cap) bw G w17 := ⟨_, _, F15.quiet s17, O7, r15.step s17 id, W15.step s17 id, t15.trans s17.pos0⟩
            clear HC16 s16 s17 s17a F15 O7 r15 W15 t15 HADD
            go_wp2
            go_roundw
            case rel => (try ((repeat apply Exists.intro); refine ⟨?_, rfl⟩)); exact ⟨k + 1, by go_num, by omega, by omega, G1⟩
            case measure => simp [intOf]; omega
    · have hsd := stands_any wr o6 2004 2002 p 1024 N it S6 _ xs F6 O6 (Row.vw (by rw [hxl]; exact r6)) (by omega) (nF _ (by omega)) (nF _ (by omega)) (by omega)
      clear hac hah ha0 hcell r6 F6 B6
      by_cases hl1 : k < lenc
      · have hl2 : ¬ (k : Int) < 40 := by omega
        go_wp2_with fail
        refine hsd.mono ?_
        rintro e w5 ⟨rfl, o5, F5, S5⟩
        have t5 := (t6.trans (S5.mono (J := Pos) fun k hk => by unfold Pos; rcases hk with hk | hk; have := hk.1; omega; omega)).old
        clear hsd F5 S5 t6
        go_wp2
        go_ret
        exact ⟨rfl, t5⟩
      · have hl2 : ¬ (k : Int) < (lenc : Int) := by omega
        go_wp2_with fail
        refine hsd.mono ?_
        rintro e w5 ⟨rfl, o5, F5, S5⟩
        have t5 := (t6.trans (S5.mono (J := Pos) fun k hk => by unfold Pos; rcases hk with hk | hk; have := hk.1; omega; omega)).old
        clear hsd F5 S5 t6
        go_wp2
        go_ret
        exact ⟨rfl, t5⟩

end Go.Proofs.Ythnocaiehhcdeab
