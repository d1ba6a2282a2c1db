/- The walk of the law SplayTurns. -/
import Derived.Test.YthnocaiehhcdeaaRowF
import Derived.Test.YthnocaiehhcdeaaStands
import Derived.Test.YthnocaiehhcdeaaCut
namespace Go.Proofs.Ythnocaiehhcdeaa
open Go.ChangeShapes Go.WideShapes Go.ChangeAt Go.RowKit
set_option linter.unusedVariables false

/-- The state of the loop: one sequence, and its list. -/
def TurnsS (w : World) (p n : Nat) (v : Value) (wr : World) : Prop :=
  ∃ xs lab o' it S, Fo wr o' 1 p 1024 n [] it S ∧ One n S xs ∧ (lab = 2002 ∨ lab = 2003) ∧ Row wr o' lab 3 1 v xs.length (intsL xs) ∧ Step Pos w o0 wr o'

theorem drop_cells {w : World} {o : Nat → Nat} {i g n cap : Nat} {xs : List Nat} (r : Nat) (h : Row w o i 3 1 (.slice (some ⟨g, 0, none⟩) n cap) n (intsL xs)) (hn : xs.length = n) : ∀ j u, ((intsL xs).drop r)[j]? = some u → w.cell? ((⟨g, r, none⟩ : Addr).add j) = some u := fun j u hj => by
  rw [List.getElem?_drop] at hj
  have hjl := (List.getElem?_eq_some_iff.1 hj).1
  rw [intsL_length] at hjl
  obtain ⟨g', cap', hv', _, _, _, _, hcell', _⟩ := h.pos (by omega)
  simp only [Value.slice.injEq, Option.some.injEq, Addr.mk.injEq, and_true, true_and] at hv'
  obtain ⟨rfl, _⟩ := hv'
  have := hcell' (r + j) (by omega)
  rw [hj] at this
  unfold Addr.add
  by_cases j0 : j = 0
  · subst j0; simpa using this
  · simpa [j0] using this
theorem take_cells {w : World} {o : Nat → Nat} {i g n cap : Nat} {xs : List Nat} (r : Nat) (h : Row w o i 3 1 (.slice (some ⟨g, 0, none⟩) n cap) n (intsL xs)) (hn : xs.length = n) : ∀ j u, ((intsL xs).take r)[j]? = some u → w.cell? ((⟨g, 0, none⟩ : Addr).add j) = some u := fun j u hj => by
  rw [List.getElem?_take] at hj
  split at hj
  · have := drop_cells 0 h hn j u (by simpa using hj)
    exact this
  · simp at hj
theorem one_of_ints (l : List Value) (xs : List Nat) (h : ∀ u ∈ l, u ∈ intsL xs) : ∀ u ∈ l, u.oneCell' = true := fun u hu => by
  obtain ⟨h', _, rfl⟩ := List.mem_map.1 (h u hu)
  rfl

set_option maxRecDepth 100000 in
set_option maxHeartbeats 8000000 in
theorem turns_walk (w : World) (a0 ah ac : Option Addr) (len0 cap0 lenh caph lenc capc : Nat) (f : Nat → RawIt) (z y : Nat → Int) (ha0 : ArgIts w a0 len0 f) (hah : Arg w ah lenh z) (hac : Arg w ac lenc y) (h1 : len0 ≤ 9223372036854775807) (h2 : lenh ≤ 9223372036854775807) (h3 : lenc ≤ 9223372036854775807) :
    Calls Try.prog 4 #[.slice a0 len0 cap0, .slice ah lenh caph, .slice ac lenc capc] w fun e w' => e = .returned (.bool true) ∧ Below w.heap.size w w' := by
  obtain ⟨ii, hii, hzi0, hzi1, hzi2⟩ := info_parts infoInt
  have npos : ¬ Pos 0 := by unfold Pos; omega
  go_enter Try.func4, Try.ntmps4
  go_wp2_with fail
  refine (awake_any w).mono ?_
  rintro e w1 ⟨rfl, hb1⟩
  have t1 : Step Pos w o0 w1 o0 := Step.ofBelow o0 hb1
  go_wp2_with fail
  refine (items_any w1 o0 a0 len0 cap0 200 2001 f (ha0.below hb1) h1 (by omega) (fun k _ => by unfold o0; omega) (by omega)).mono ?_
  rintro e w2 ⟨vi, its, o2, rfl, ⟨hi1, hi2⟩, hmay, ri, s2⟩
  have t2 := t1.trans (s2.mono (J := Pos) fun k hk => by unfold Pos; omega)
  have H2 := hah.at0.step t2 npos
  have hvi := ri.form
  obtain ⟨ai, ci, rfl⟩ := hvi
  have nF : ∀ k, 2000 ≤ k → ¬ FL 1 k := fun k hk h => by have := h.2; omega
  clear t1 s2 hb1
  go_wp2_with fail
  refine (row_any w2 o2 2002 2001 _ its ah lenh caph z ri hmay (by omega) H2 h2 (nF _ (by omega)) (by omega) (by omega) (nF _ (by omega))).mono ?_
  rintro e w3 ⟨p, v3, xs, o3, it, S, rfl, F3, O3, _, r3, s3⟩
  have t3 := t2.trans (s3.mono (J := Pos) fun k hk => by unfold Pos; rcases hk with hk | hk; have := hk.1; omega; omega)
  have hv3 := r3.form
  obtain ⟨a3, c3, rfl⟩ := hv3
  have hxl := O3.len
  have START : TurnsS w p its.length (.slice a3 xs.length c3) w3 := ⟨xs, 2002, o3, it, S, F3, O3, .inl rfl, r3, t3⟩
  rw [hxl] at START
  clear t2 s3 H2 ri hmay F3 O3 r3 t3
  go_wp2
  go_loopw [10, 11] (fun v u wr => ∃ k : Nat, u = .int .i64 (k : Nat) ∧ k ≤ lenc ∧ k ≤ 60 ∧ TurnsS w p its.length v wr) (fun _ u _ => 60 - (intOf u).toNat)
  case atStart => exact ⟨0, by go_num, by omega, by omega, START⟩
  case round =>
    clear START hxl
    obtain ⟨k, rfl, hk, hk60, xs, lab, o4, it, S, F4, O4, hlab, r4, t4⟩ := hrel
    have hxl := O4.len
    rw [hxl] at r4
    obtain ⟨g, cap, rfl, hg, hcap, hmx, hgl, hcell, hfr⟩ := r4.pos (by omega)
    have hlF : ¬ FL 1 lab := nF _ (by omega)
    by_cases hlt : k < lenc ∧ k < 60
    · obtain ⟨hlt1, hlt2⟩ := hlt
      obtain ⟨bc, offc, rfl, hbc, hoc, hcc, hyb1, hyb2⟩ := hac.at0.step t4 npos k hlt1
      have hpk := pick_any (y k) its.length wr hyb1 hyb2 (by omega) (by omega)
      unfold maxLen at hmx
      have HCELL : Hid (∀ wx ox, Step (FL 1) wr o4 wx ox → ∀ j (hj : j < xs.length), wx.cell? ⟨g, j, none⟩ = some (.int .i64 (xs[j] : Nat))) := fun wx ox s j hj => by
        rw [s.cell hgl (by rw [hg]; exact hlF), hcell j (by omega)]; exact intsL_get xs j hj
      clear hcell
      go_wp2_with fail
      refine hpk.mono ?_
      rintro e w5 ⟨r, hr, rfl, hw5⟩
      obtain rfl : wr = w5 := hw5.symm
      have hrx : r < xs.length := by omega
      have ecut := cut_at hrx
      have cr := HCELL.out wr o4 (Step.refl _ _ _) r hrx
      have lr := O4.live (List.getElem_mem hrx)
      have sr := O4.seq _ (List.getElem_mem hrx)
      have hsp := splitInF wr o4 1 p 1024 its.length [] it S xs[r] (xs.take r) (xs.drop (r + 1)) F4 lr (by rw [sr]; exact ecut)
      by_cases r0 : r = 0
      · subst r0
        have O5 := O4.cut0 (a := xs[0]) (B := xs.drop 1) (by rw [← List.drop_eq_getElem_cons hrx, List.drop_zero])
        obtain ⟨x, hx⟩ : ∃ x, x = xs[0] := ⟨_, rfl⟩
        rw [List.take_zero] at hsp
        rw [← hx] at hsp cr O5
        have HX : Hid (xs.length = its.length) := hxl
        clear hpk hx ecut sr lr hxl F4 hrx
        go_wp2_with fail
        refine hsp.mono ?_
        rintro e w6 ⟨rfl, o6, F6, S6⟩
        have r6 := r4.step S6 hlF
        have t6 := t4.trans (S6.posF (by omega))
        have G : TurnsS w p its.length (.slice (some ⟨g, 0, none⟩) its.length cap) w6 := ⟨xs, lab, o6, it, _, F6, O5, hlab, by rw [HX.out]; exact r6, t6⟩
        clear hsp F6 S6 r6 t6 r4 t4 O4 O5 HCELL
        go_wp2
        go_roundw
        case rel => (try ((repeat apply Exists.intro); refine ⟨?_, rfl⟩)); exact ⟨k + 1, by go_num, by omega, by omega, G⟩
        case measure => simp [intOf]; omega
      · obtain ⟨m, rfl⟩ : ∃ m, r = m + 1 := ⟨r - 1, by omega⟩
        have hm1 : m < xs.length := by omega
        have hlast : xs.length - 1 < xs.length := by omega
        have h00 : 0 < xs.length := by omega
        have inA : ∀ j (hj : j < xs.length), j < m + 1 → xs[j] ∈ xs.take (m + 1) := fun j hj hjm => by
          rw [List.mem_take_iff_getElem]; exact ⟨j, by omega, rfl⟩
        have inB : ∀ j (hj : j < xs.length), m + 1 ≤ j → xs[j] ∈ xs[m + 1] :: xs.drop (m + 1 + 1) := fun j hj hjm => by
          rw [← List.drop_eq_getElem_cons hrx, List.mem_drop_iff_getElem]
          exact ⟨j - (m + 1), by omega, by congr 1; omega⟩
        have cA := fun j hj hjm => O4.cutL ecut (inA j hj hjm)
        have cB := fun j hj hjm => O4.cutR ecut (inB j hj hjm)
        have hno : xs.take (m + 1) ≠ xs[m + 1] :: xs.drop (m + 1 + 1) := fun e => by
          have h1 := inA 0 h00 (by omega)
          have h2 := O4.nodup
          rw [ecut] at h2
          exact (List.nodup_append.1 h2).2.2 _ h1 _ (by rw [← e]; exact h1) rfl
        have O5 := O4.turned ecut (inB _ hlast (by omega)) (inA 0 h00 (by omega))
        have lm := O4.live (List.getElem_mem hm1)
        have ll := O4.live (List.getElem_mem hlast)
        have l0 := O4.live (List.getElem_mem h00)
        have hdf : decide (splitS S (xs.take (m + 1)) xs[m + 1] (xs.drop (m + 1 + 1)) xs[m] = splitS S (xs.take (m + 1)) xs[m + 1] (xs.drop (m + 1 + 1)) xs[m + 1]) = false := by
          rw [cA m hm1 (by omega), cB (m + 1) hrx (by omega)]; exact decide_eq_false hno
        have hjn : splitS S (xs.take (m + 1)) xs[m + 1] (xs.drop (m + 1 + 1)) xs[xs.length - 1] ≠ splitS S (xs.take (m + 1)) xs[m + 1] (xs.drop (m + 1 + 1)) xs[0] := by
          rw [cA 0 h00 (by omega), cB _ hlast (by omega)]; exact hno.symm
        have HSAME : Hid (∀ wx ox, Fo wx ox 1 p 1024 its.length [] it (splitS S (xs.take (m + 1)) xs[m + 1] (xs.drop (m + 1 + 1))) → Calls Try.prog 19 #[.pointer (some ⟨p, 0, none⟩), .int .i64 (xs[m] : Nat), .int .i64 (xs[m + 1] : Nat)] wx fun e w' => e = .returned (.tuple #[.bool false, .int .i64 0]) ∧ ∃ o', Fo w' o' 1 p 1024 its.length [] it (splitS S (xs.take (m + 1)) xs[m + 1] (xs.drop (m + 1 + 1))) ∧ Step (FL 1) wx ox w' o') := fun wx ox Fx => by
          have := sameInF wx ox 1 p 1024 its.length [] it _ xs[m] xs[m + 1] Fx lm lr
          rw [hdf] at this
          exact this
        have HJOIN : Hid (∀ wx ox, Fo wx ox 1 p 1024 its.length [] it (splitS S (xs.take (m + 1)) xs[m + 1] (xs.drop (m + 1 + 1))) → Calls Try.prog 20 #[.pointer (some ⟨p, 0, none⟩), .int .i64 (xs[xs.length - 1] : Nat), .int .i64 (xs[0] : Nat)] wx fun e w' => e = .returned (.int .i64 0) ∧ ∃ o', Fo w' o' 1 p 1024 its.length [] it (joinS (splitS S (xs.take (m + 1)) xs[m + 1] (xs.drop (m + 1 + 1))) xs[xs.length - 1] xs[0]) ∧ Step (FL 1) wx ox w' o') := fun wx ox Fx => joinInF wx ox 1 p 1024 its.length [] it _ _ _ Fx ll l0 hjn
        have HC4 : Hid (∀ wx ox, Step (FL 1) wr o4 wx ox → wx.cell? ⟨g, m, none⟩ = some (.int .i64 (xs[m] : Nat)) ∧ wx.cell? ⟨g, m + 1, none⟩ = some (.int .i64 (xs[m + 1] : Nat)) ∧ wx.cell? ⟨g, its.length - 1, none⟩ = some (.int .i64 (xs[xs.length - 1] : Nat)) ∧ wx.cell? ⟨g, 0, none⟩ = some (.int .i64 (xs[0] : Nat))) := fun wx ox s => ⟨HCELL.out wx ox s m hm1, HCELL.out wx ox s (m + 1) hrx, by have := HCELL.out wx ox s _ hlast; rw [← hxl]; exact this, HCELL.out wx ox s 0 h00⟩
        obtain ⟨xa, hxa⟩ : ∃ x, x = xs[m] := ⟨_, rfl⟩
        obtain ⟨xb, hxb⟩ : ∃ x, x = xs[m + 1] := ⟨_, rfl⟩
        obtain ⟨xl, hxl2⟩ : ∃ x, x = xs[xs.length - 1] := ⟨_, rfl⟩
        obtain ⟨x0, hx0⟩ : ∃ x, x = xs[0] := ⟨_, rfl⟩
        rw [← hxb] at hsp cr O5 HSAME HJOIN HC4
        rw [← hxa] at HSAME HC4
        rw [← hxl2, ← hx0] at HJOIN HC4 O5
        have eX : xb :: xs.drop (m + 1 + 1) ++ xs.take (m + 1) = xs.drop (m + 1) ++ xs.take (m + 1) := by rw [hxb, ← List.drop_eq_getElem_cons hrx]
        rw [eX] at O5
        have HX : Hid (xs.length = its.length) := hxl
        have hrm : m + 1 < its.length := hr
        have bm : (m : Int) < (its.length : Int) := by omega
        have bm1 : (m : Int) + 1 < (its.length : Int) := by omega
        have bl0 : (0 : Int) ≤ (its.length : Int) - 1 := by omega
        have bl1 : (its.length : Int) - 1 < (its.length : Int) := by omega
        have wm : IntKind.i64.wrap (m : Int) = (m : Int) := by rw [IntKind.wrap_i64]; omega
        have wl : IntKind.i64.wrap ((its.length : Int) - 1) = (its.length : Int) - 1 := by rw [IntKind.wrap_i64]; omega
        have tl : ((its.length : Int) - 1).toNat = its.length - 1 := by omega
        clear hpk hxa hxb hxl2 hx0 ecut sr lr hxl F4 hrx inA inB cA cB hno lm ll l0 hdf hjn eX hm1 hlast h00 HCELL
        go_wp2_with fail
        refine hsp.mono ?_
        rintro e w6 ⟨rfl, o6, F6, S6⟩
        have S6d := S6.drew
        have F6d := F6.quiet ((Step.refl (fun _ => False) w6 o6).drew)
        obtain ⟨y1, y2, y3, y4⟩ := HC4.out _ _ S6
        clear hsp cr
        go_wp2_with fail
        go_region_held (fun wx => wx.cell? ⟨g, m, none⟩ = some (.int .i64 (xa : Nat)) ∧ wx.cell? ⟨g, m + 1, none⟩ = some (.int .i64 (xb : Nat)) ∧ wx.cell? ⟨g, its.length - 1, none⟩ = some (.int .i64 (xl : Nat)) ∧ wx.cell? ⟨g, 0, none⟩ = some (.int .i64 (x0 : Nat))) (first | (with_reducible exact HC4.out _ _ S7') | (with_reducible exact HC4.out _ _ S6d)) ((go_at_call 19; refine (HSAME.out _ _ F6d).mono ?_; rintro e w7 ⟨rfl, o7, F7, S7⟩; have S7' := S6d.trans S7))
        all_goals
          have S7d := S7'.drew
          have F7d := F7.quiet ((Step.refl (fun _ => False) w7 o7).drew)
          obtain ⟨z1, z2, z3, z4⟩ := HC4.out _ _ S7'
          clear y1 y2 y3 y4 F6 F6d S6 S6d S7 HSAME F7
          go_wp2_with fail
          go_region_held (fun wx => wx.cell? ⟨g, m, none⟩ = some (.int .i64 (xa : Nat)) ∧ wx.cell? ⟨g, m + 1, none⟩ = some (.int .i64 (xb : Nat)) ∧ wx.cell? ⟨g, its.length - 1, none⟩ = some (.int .i64 (xl : Nat)) ∧ wx.cell? ⟨g, 0, none⟩ = some (.int .i64 (x0 : Nat))) (first | (with_reducible exact HC4.out _ _ S8') | (with_reducible exact HC4.out _ _ S7d)) ((go_at_call 20; refine (HJOIN.out _ _ F7d).mono ?_; rintro e w8 ⟨rfl, o8, F8, S8⟩; have S8' := S7d.trans S8))
          all_goals
            have t8 := t4.trans (S8'.posF (by omega))
            have r8 := r4.step S8' hlF
            obtain ⟨oth, hoth, hne⟩ : ∃ oth, (oth = 2002 ∨ oth = 2003) ∧ oth ≠ lab := by
              rcases hlab with rfl | rfl
              · exact ⟨2003, .inr rfl, by omega⟩
              · exact ⟨2002, .inl rfl, by omega⟩
            have hoF : ¬ FL 1 oth := nF _ (by omega)
            have rn : Row w8 o8 oth 3 1 (.slice none 0 0) 0 [] := Row.nil _ _ _ _ _
            have dl : ((intsL xs).drop (m + 1)).length = (its.length - (m + 1)) * 1 := by rw [List.length_drop, intsL_length, HX.out]; omega
            have HD : Hid (((intsL xs).drop (m + 1)).length = (its.length - (m + 1)) * 1) := dl
            have HDC : Hid (∀ j u, ((intsL xs).drop (m + 1))[j]? = some u → w8.cell? ((⟨g, m + 1, none⟩ : Addr).add j) = some u) := drop_cells (m + 1) r8 HX.out
            have HDO : Hid (∀ u ∈ (intsL xs).drop (m + 1), u.oneCell' = true) := one_of_ints _ xs (fun u hu => List.mem_of_mem_drop hu)
            have b1 : 0 + (its.length - (m + 1)) ≤ maxLen := by unfold maxLen; omega
            have b2 : 0 < its.length - (m + 1) := by omega
            have b3 : (0 + (its.length - (m + 1))) * 8 ≤ 140737488355328 := by omega
            have e1 : ((its.length : Int) - ((m : Int) + 1)).toNat = its.length - (m + 1) := by omega
            have e2 : ((cap : Int) - ((m : Int) + 1)).toNat = cap - (m + 1) := by omega
            have q1 : (m : Int) + 1 ≤ (its.length : Int) := by omega
            have q2 : (its.length : Int) ≤ (cap : Int) := by omega
            clear z1 z2 z3 z4 S7d F7d S8 HJOIN HC4 dl S7'
            go_wp2_with (first | (at_builtin; refine wpList_append_lab rfl (.tmp 100) (.tmp 103) 42 rfl 3 ii (.int .i64 0) 1 8 Try.underlying42 hii hzi0 hzi1 hzi2 rfl (by decide) o8 oth _ 0 [] rfl rn ⟨g, m + 1, none⟩ (its.length - (m + 1)) (cap - (m + 1)) ((intsL xs).drop (m + 1)) rfl HD.out HDC.out HDO.out b2 b1 b3 ?_) | go_in)
            intro g9 c9 w9 o9 r9 s9
            have r9b := r8.step s9 (fun e => hne e.symm)
            have F9 := F8.step s9 (fun k hk e => hoF (e ▸ hk))
            have t9 := t8.trans (s9.mono (J := Pos) fun k hk => by unfold Pos; omega)
            have HTC : Hid (∀ j u, ((intsL xs).take (m + 1))[j]? = some u → w9.cell? ((⟨g, 0, none⟩ : Addr).add j) = some u) := take_cells (m + 1) r9b HX.out
            have HTO : Hid (∀ u ∈ (intsL xs).take (m + 1), u.oneCell' = true) := one_of_ints _ xs (fun u hu => List.mem_of_mem_take hu)
            have HTL : Hid (((intsL xs).take (m + 1)).length = (m + 1) * 1) := by
              show _ = _
              rw [List.length_take, intsL_length, HX.out]; omega
            have b4 : its.length - (m + 1) + (m + 1) ≤ maxLen := by unfold maxLen; omega
            have b5 : (its.length - (m + 1) + (m + 1)) * 8 ≤ 140737488355328 := by omega
            clear s9 F8 r8 t8 rn HD HDC HDO b1 b3
            go_wp2_with (first | (at_builtin; refine wpList_append_lab rfl (.tmp 105) (.tmp 108) 42 rfl 3 ii (.int .i64 0) 1 8 Try.underlying42 hii hzi0 hzi1 hzi2 rfl (by decide) o9 oth _ (its.length - (m + 1)) ((intsL xs).drop (m + 1)) rfl r9 ⟨g, 0, none⟩ (m + 1) cap ((intsL xs).take (m + 1)) rfl HTL.out HTC.out HTO.out (by omega) b4 b5 ?_) | go_in)
            intro g10 c10 w10 o10 r10 s10
            have F10 := F9.step s10 (fun k hk e => hoF (e ▸ hk))
            have t10 := t9.trans (s10.mono (J := Pos) fun k hk => by unfold Pos; omega)
            have eN : its.length - (m + 1) + (m + 1) = its.length := by omega
            have G : TurnsS w p its.length (.slice (some ⟨g10, 0, none⟩) its.length c10) w10 := by
              refine ⟨xs.drop (m + 1) ++ xs.take (m + 1), oth, o10, it, _, F10, O5, hoth, ?_, t10⟩
              rw [eN] at r10
              have e3 : (xs.drop (m + 1) ++ xs.take (m + 1)).length = its.length := by rw [O5.len]
              have e4 : (intsL xs).drop (m + 1) ++ (intsL xs).take (m + 1) = intsL (xs.drop (m + 1) ++ xs.take (m + 1)) := by simp [intsL]
              rw [e3, ← e4]; exact r10
            clear F9 F10 r9 r9b r10 s10 t9 t10 HTC HTO HTL r4 t4 O4 O5 b4 b5
            go_wp2
            go_roundw
            case rel => (try ((repeat apply Exists.intro); refine ⟨?_, rfl⟩)); exact ⟨k + 1, by go_num, by omega, by omega, by first | exact G | (rw [eN]; exact G)⟩
            case measure => simp [intOf]; omega
    · have hsd := stands_any wr o4 2004 lab p 1024 its.length it S _ xs F4 O4 (Row.vw (by rw [hxl]; exact r4)) (by omega) hlF (nF _ (by omega)) (by omega)
      clear hac hah ha0 hcell r4 F4
      by_cases hl1 : k < lenc
      · have hl2 : ¬ (k : Int) < 60 := by omega
        go_wp2_with fail
        refine hsd.mono ?_
        rintro e w5 ⟨rfl, o5, F5, S5⟩
        have t5 := (t4.trans (S5.mono (J := Pos) fun k hk => by unfold Pos; rcases hk with hk | hk; have := hk.1; omega; omega)).old
        clear hsd F5 S5 t4
        go_wp2
        go_ret
        exact ⟨rfl, t5⟩
      · have hl2 : ¬ (k : Int) < (lenc : Int) := by omega
        go_wp2_with fail
        refine hsd.mono ?_
        rintro e w5 ⟨rfl, o5, F5, S5⟩
        have t5 := (t4.trans (S5.mono (J := Pos) fun k hk => by unfold Pos; rcases hk with hk | hk; have := hk.1; omega; omega)).old
        clear hsd F5 S5 t4
        go_wp2
        go_ret
        exact ⟨rfl, t5⟩

end Go.Proofs.Ythnocaiehhcdeaa
