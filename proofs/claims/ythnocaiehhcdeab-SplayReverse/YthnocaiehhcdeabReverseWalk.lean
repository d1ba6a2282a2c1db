/- The walk of the law SplayReverse. -/
import Derived.Test.YthnocaiehhcdeabRowF
import Derived.Test.YthnocaiehhcdeabStands
import Derived.Test.YthnocaiehhcdeabCut
import Derived.Test.YthnocaiehhcdeabFree
import Derived.Test.YthnocaiehhcdeabMake2
import Derived.Test.YthnocaiehhcdeabApart
namespace Go.Proofs.Ythnocaiehhcdeab
open Go.ChangeShapes Go.WideShapes Go.ChangeAt Go.RowKit
set_option linter.unusedVariables false

theorem rev_drop {xs : List Nat} {i : Nat} (hi : i < xs.length) : (xs.drop i).reverse = (xs.drop (i + 1)).reverse ++ [xs[i]] := by
  rw [List.drop_eq_getElem_cons hi]; simp

/-- The state while nodes are cut apart. -/
def CutS (w : World) (p n : Nat) (xs : List Nat) (lab : Nat) (v : Value) (k : Nat) (wr : World) : Prop :=
  ∃ o' it S, Fo wr o' 1 p 1024 n [] it S ∧ Cuts S xs (k - 1) ∧ Row wr o' lab 3 1 v xs.length (intsL xs) ∧ Step Pos w o0 wr o'

/-- The state while nodes are joined the other way round. -/
def BackS (w : World) (p n : Nat) (xs : List Nat) (va vb : Value) (m : Nat) (wr : World) : Prop :=
  ∃ o' it S, Fo wr o' 1 p 1024 n [] it S ∧ Half S xs (xs.drop m).reverse ∧ Row wr o' 2002 3 1 va n (intsL xs) ∧ Row wr o' 2003 3 1 vb (n - m) (intsL (xs.drop m).reverse) ∧ Step Pos w o0 wr o'
/-- The state while nodes are freed, and made again. -/
def GoneS (w : World) (p n : Nat) (bs : List Nat) (v : Value) (k : Nat) (wr : World) : Prop :=
  ∃ o' it S, Fo wr o' 1 p 1024 n (bs.take k) it S ∧ Singles S bs ∧ Row wr o' 2003 3 1 v n (intsL bs) ∧ Step Pos w o0 wr o'
def AgainS (w : World) (p n : Nat) (bs : List Nat) (v : Value) (k : Nat) (wr : World) : Prop :=
  ∃ o' it S, Fo wr o' 1 p 1024 n (bs.take k) it S ∧ Row wr o' 2003 3 1 v n (intsL bs) ∧ Step Pos w o0 wr o'

theorem row_same {w : World} {o : Nat → Nat} {i g n cap : Nat} {ys : List Nat} (h : Row w o i 3 1 (.slice (some ⟨g, 0, none⟩) n cap) n (intsL ys)) (hn : ys.length = n) (h0 : 0 < n) : o g = i ∧ g < w.heap.size ∧ n ≤ cap ∧ cap ≤ maxLen ∧ ∀ j (hj : j < ys.length), w.cell? ⟨g, j, none⟩ = some (.int .i64 (ys[j] : Nat)) := by
  obtain ⟨g', cap', hv', h1, h2, h3, h4, hcell', _⟩ := h.pos h0
  simp only [Value.slice.injEq, Option.some.injEq, Addr.mk.injEq, and_true, true_and] at hv'
  obtain ⟨rfl, rfl⟩ := hv'
  exact ⟨h1, h4, h2, h3, fun j hj => by rw [hcell' j (by omega)]; exact intsL_get ys j hj⟩

set_option maxRecDepth 100000 in
set_option maxHeartbeats 8000000 in
theorem reverse_walk (w : World) (a0 ah : Option Addr) (len0 cap0 lenh caph : Nat) (f : Nat → RawIt) (z : Nat → Int) (ha0 : ArgIts w a0 len0 f) (hah : Arg w ah lenh z) (h1 : len0 ≤ 9223372036854775807) (h2 : lenh ≤ 9223372036854775807) :
    Calls Try.prog 4 #[.slice a0 len0 cap0, .slice ah lenh caph] w fun e w' => e = .returned (.bool true) ∧ Below w.heap.size w w' := by
  obtain ⟨ii, hii, hzi0, hzi1, hzi2⟩ := info_parts infoInt
  have npos : ¬ Pos 0 := by unfold Pos; omega
  have nF : ∀ k, 2000 ≤ k → ¬ FL 1 k := fun k hk h => by have := h.2; omega
  go_enter Try.func4, Try.ntmps4
  go_wp2_with fail
  refine (awake_any w).mono ?_
  rintro e w1 ⟨rfl, hb1⟩
  have t1 : Step Pos w o0 w1 o0 := Step.ofBelow o0 hb1
  go_wp2_with fail
  refine (items_any w1 o0 a0 len0 cap0 80 2001 f (ha0.below hb1) h1 (by omega) (fun k _ => by unfold o0; omega) (by omega)).mono ?_
  rintro e w2 ⟨vi, its, o2, rfl, ⟨hi1, hi2⟩, hmay, ri, s2⟩
  have t2 := t1.trans (s2.mono (J := Pos) fun k hk => by unfold Pos; omega)
  have H2 := hah.at0.step t2 npos
  have hvi := ri.form
  obtain ⟨ai, ci, rfl⟩ := hvi
  clear t1 s2 hb1
  go_wp2_with fail
  refine (row_any w2 o2 2002 2001 _ its ah lenh caph z ri hmay (by omega) H2 h2 (nF _ (by omega)) (by omega) (by omega) (nF _ (by omega))).mono ?_
  rintro e w3 ⟨p, v3, xs, o3, it, S, rfl, F3, O3, _, r3, s3⟩
  have t3 := t2.trans (s3.mono (J := Pos) fun k hk => by unfold Pos; rcases hk with hk | hk; have := hk.1; omega; omega)
  have hxl := O3.len
  rw [hxl] at r3
  obtain ⟨N, hN⟩ : ∃ N, N = its.length := ⟨_, rfl⟩
  rw [← hN] at r3 F3 O3 hxl hi1 hi2
  obtain ⟨g, cap, rfl, _⟩ := r3.pos hi1
  have START : CutS w p N xs 2002 (.slice (some ⟨g, 0, none⟩) N cap) 0 w3 := ⟨o3, it, S, F3, Cuts.start O3, by rw [hxl]; exact r3, t3⟩
  have hnd := O3.nodup
  have hme := O3.mem
  have hlv : ∀ j (hj : j < xs.length), Live N [] xs[j] := fun j hj => O3.live (List.getElem_mem _)
  clear t2 s3 H2 ri hmay F3 O3 r3 t3 hN
  go_wp2
  go_loopw [8] (fun u wr => ∃ k : Nat, k ≤ N ∧ u = .int .i64 (k : Nat) ∧ CutS w p N xs 2002 (.slice (some ⟨g, 0, none⟩) N cap) k wr) (fun u _ => N - (intOf u).toNat)
  case atStart => exact ⟨0, by omega, by go_num, START⟩
  case round =>
    clear START
    obtain ⟨k, hk, rfl, o4, it, S, F4, C4, r4, t4⟩ := hrel
    rw [hxl] at r4
    obtain ⟨hg, hgl, hcap, hmx, hcell⟩ := row_same r4 hxl hi1
    unfold maxLen at hmx
    by_cases hlt : k < N
    · have hkx : k < xs.length := by omega
      have ck := hcell k hkx
      have hsp : Calls Try.prog 10 #[.pointer (some ⟨p, 0, none⟩), .int .i64 (xs[k] : Nat)] wr fun e w' => e = .returned (.int .i64 0) ∧ CutS w p N xs 2002 (.slice (some ⟨g, 0, none⟩) N cap) (k + 1) w' := by
        by_cases k0 : k = 0
        · subst k0
          refine (splitInF wr o4 1 p 1024 N [] it S xs[0] [] (xs.drop 1) F4 (hlv 0 hkx) (C4.at0 hkx)).mono ?_
          rintro e w5 ⟨rfl, o5, F5, S5⟩
          exact ⟨rfl, o5, it, _, F5, C4.first hkx, by rw [hxl]; exact r4.step S5 (nF _ (by omega)), t4.trans (S5.posF (by omega))⟩
        · obtain ⟨c, rfl⟩ : ∃ c, k = c + 1 := ⟨k - 1, by omega⟩
          refine (splitInF wr o4 1 p 1024 N [] it S xs[c + 1] [xs[c]] (xs.drop (c + 1 + 1)) F4 (hlv _ hkx) (C4.atS hkx)).mono ?_
          rintro e w5 ⟨rfl, o5, F5, S5⟩
          exact ⟨rfl, o5, it, _, F5, C4.next hnd hkx, by rw [hxl]; exact r4.step S5 (nF _ (by omega)), t4.trans (S5.posF (by omega))⟩
      obtain ⟨x, hx⟩ : ∃ x, x = xs[k] := ⟨_, rfl⟩
      rw [← hx] at ck hsp
      have HX : Hid (xs.length = N) := hxl
      clear hcell hx F4 C4 r4 t4 hxl hlv
      go_wp2_with fail
      refine hsp.mono ?_
      rintro e w5 ⟨rfl, G⟩
      clear hsp ck
      go_wp2
      go_roundw
      case rel => (try ((repeat apply Exists.intro); refine ⟨?_, rfl⟩)); exact ⟨k + 1, by omega, by go_num, G⟩
      case measure => simp [intOf]; omega
    · obtain rfl : k = N := by omega
      have SG : Singles S xs := C4.done (by omega)
      have eD : xs.drop k = [] := List.drop_eq_nil_of_le (by omega)
      have START2 : BackS w p k xs (.slice (some ⟨g, 0, none⟩) k cap) (.slice none 0 0) k wr := ⟨o4, it, S, F4, by rw [eD]; exact Half.start SG, r4, by rw [eD]; have := Row.nil wr o4 2003 3 1; simpa [intsL] using this, t4⟩
      clear F4 C4 r4 t4 SG hcell eD hg hgl
      go_wp2
      go_loopw [9, 10] (fun v u wr => ∃ m : Nat, m ≤ k ∧ u = .int .i64 ((m : Int) - 1) ∧ BackS w p k xs (.slice (some ⟨g, 0, none⟩) k cap) v m wr) (fun _ u _ => (intOf u + 1).toNat)
      case atStart => exact ⟨k, by omega, by go_num, START2⟩
      case round =>
        clear START2
        obtain ⟨m, hm, rfl, o5, it5, S5, F5, H5, r5, b5, t5⟩ := hrel
        obtain ⟨hg, hgl, hcap, hmx, hcell⟩ := row_same r5 hxl hi1
        unfold maxLen at hmx
        obtain ⟨ab, cb, rfl⟩ := b5.form
        by_cases hm0 : m = 0
        · subst hm0
          rw [List.drop_zero, Nat.sub_zero] at b5
          rw [List.drop_zero] at H5
          obtain ⟨bs, hbs⟩ : ∃ bs, bs = xs.reverse := ⟨_, rfl⟩
          rw [← hbs] at b5 H5
          have hbl : bs.length = k := by rw [hbs, List.length_reverse]; exact hxl
          have hbn : bs.Nodup := by rw [hbs]; unfold List.Nodup; rw [List.pairwise_reverse]; exact hnd.imp (fun h => h.symm)
          have hbm : ∀ h, h ∈ bs ↔ 1 ≤ h ∧ h ≤ k := fun h => by rw [hbs, List.mem_reverse]; exact hme h
          have O5 : One k S5 bs := ⟨hbn, hbm, H5.one, hbl⟩
          obtain ⟨gb, cb', hv, _⟩ := b5.pos hi1
          simp only [Value.slice.injEq, true_and] at hv
          obtain ⟨rfl, rfl⟩ := hv
          have hsd := stands_any wr o5 2004 2003 p 1024 k it5 S5 _ bs F5 O5 (Row.vw (by rw [hbl]; exact b5)) (by omega) (nF _ (by omega)) (nF _ (by omega)) (by omega)
          have hlb : ∀ j (hj : j < bs.length), Live k [] bs[j] := fun j hj => O5.live (List.getElem_mem _)
          have CB := Cuts.start O5
          clear hcell hg hgl r5 F5 H5 hbs hlv hnd hme
          go_wp2_with fail
          refine hsd.mono ?_
          rintro e w6 ⟨rfl, o6, F6, S6⟩
          have START3 : CutS w p k bs 2003 (.slice (some ⟨gb, 0, none⟩) k cb) 0 w6 := ⟨o6, it5, S5, F6, CB, by rw [hbl]; exact b5.step S6 (RL2.not (nF _ (by omega)) (by omega)), t5.trans (S6.mono (J := Pos) fun k hk => by unfold Pos; rcases hk with hk | hk; have := hk.1; omega; omega)⟩
          clear hsd F6 S6 CB b5 t5 O5
          go_wp2
          go_loopw [12] (fun u wr => ∃ r : Nat, r ≤ k ∧ u = .int .i64 (r : Nat) ∧ CutS w p k bs 2003 (.slice (some ⟨gb, 0, none⟩) k cb) r wr) (fun u _ => k - (intOf u).toNat)
          case atStart => exact ⟨0, by omega, by go_num, START3⟩
          case round =>
            clear START3
            obtain ⟨r, hr, rfl, o7, it7, S7, F7, C7, r7, t7⟩ := hrel
            rw [hbl] at r7
            obtain ⟨hg7, hgl7, hcap7, hmx7, hcell7⟩ := row_same r7 hbl hi1
            unfold maxLen at hmx7
            by_cases hlt7 : r < k
            · have hkx : r < bs.length := by omega
              have ck := hcell7 r hkx
              have hsp : Calls Try.prog 10 #[.pointer (some ⟨p, 0, none⟩), .int .i64 (bs[r] : Nat)] wr fun e w' => e = .returned (.int .i64 0) ∧ CutS w p k bs 2003 (.slice (some ⟨gb, 0, none⟩) k cb) (r + 1) w' := by
                by_cases k0 : r = 0
                · subst k0
                  refine (splitInF wr o7 1 p 1024 k [] it7 S7 bs[0] [] (bs.drop 1) F7 (hlb 0 hkx) (C7.at0 hkx)).mono ?_
                  rintro e w5 ⟨rfl, o5, F5, S5⟩
                  exact ⟨rfl, o5, it7, _, F5, C7.first hkx, by rw [hbl]; exact r7.step S5 (nF _ (by omega)), t7.trans (S5.posF (by omega))⟩
                · obtain ⟨c, rfl⟩ : ∃ c, r = c + 1 := ⟨r - 1, by omega⟩
                  refine (splitInF wr o7 1 p 1024 k [] it7 S7 bs[c + 1] [bs[c]] (bs.drop (c + 1 + 1)) F7 (hlb _ hkx) (C7.atS hkx)).mono ?_
                  rintro e w5 ⟨rfl, o5, F5, S5⟩
                  exact ⟨rfl, o5, it7, _, F5, C7.next hbn hkx, by rw [hbl]; exact r7.step S5 (nF _ (by omega)), t7.trans (S5.posF (by omega))⟩
              obtain ⟨x, hx⟩ : ∃ x, x = bs[r] := ⟨_, rfl⟩
              rw [← hx] at ck hsp
              clear hcell7 hx F7 C7 r7 t7 hbl hlb hxl
              go_wp2_with fail
              refine hsp.mono ?_
              rintro e w5 ⟨rfl, G⟩
              clear hsp ck
              go_wp2
              go_roundw
              case rel => (try ((repeat apply Exists.intro); refine ⟨?_, rfl⟩)); exact ⟨r + 1, by omega, by go_num, G⟩
              case measure => simp [intOf]; omega
            · obtain rfl : r = k := by omega
              have SG : Singles S7 bs := C7.done (by omega)
              have START4 : GoneS w p r bs (.slice (some ⟨gb, 0, none⟩) r cb) 0 wr := ⟨o7, it7, S7, by rw [List.take_zero]; exact F7, SG, r7, t7⟩
              clear F7 C7 r7 t7 SG hcell7 hg7 hgl7
              go_wp2
              go_loopw [13] (fun u wr => ∃ q : Nat, q ≤ r ∧ u = .int .i64 (q : Nat) ∧ GoneS w p r bs (.slice (some ⟨gb, 0, none⟩) r cb) q wr) (fun u _ => r - (intOf u).toNat)
              case atStart => exact ⟨0, by omega, by go_num, START4⟩
              case round =>
                clear START4
                obtain ⟨q, hq, rfl, o8, it8, S8, F8, G8, r8, t8⟩ := hrel
                obtain ⟨hg8, hgl8, hcap8, hmx8, hcell8⟩ := row_same r8 hbl hi1
                unfold maxLen at hmx8
                by_cases hlt8 : q < r
                · have hqx : q < bs.length := by omega
                  have hnt : bs[q] ∉ bs.take q := fun hm => by
                    obtain ⟨j, hj, hje⟩ := List.mem_take_iff_getElem.1 hm
                    have := (List.getElem_inj hbn).1 hje
                    omega
                  have lq : Live r (bs.take q) bs[q] := ⟨(hlb q hqx).1, (hlb q hqx).2.1, hnt⟩
                  have et : bs.take q ++ [bs[q]] = bs.take (q + 1) := by rw [List.take_succ_eq_append_getElem hqx]
                  have hf1 := freeInF wr o8 1 p 1024 r (bs.take q) it8 S8 bs[q] F8 lq (G8 _ (List.getElem_mem _))
                  rw [et] at hf1
                  have hout : hasB r (bs.take (q + 1)) (bs[q] : Nat) = false := by
                    have e1 : ((bs[q] : Nat) : Int).toNat - 1 + 1 = bs[q] := by have := (hlb q hqx).1; omega
                    simp only [hasB, useB, e1]
                    have : bs[q] ∈ bs.take (q + 1) := by rw [← et]; exact List.mem_append_right _ (List.mem_singleton.2 rfl)
                    simp [this]
                  have HF2 : Hid (∀ wx ox, Fo wx ox 1 p 1024 r (bs.take (q + 1)) it8 S8 → Calls Try.prog 14 #[.pointer (some ⟨p, 0, none⟩), .int .i64 (bs[q] : Nat)] wx fun e w' => e = .returned (.int .i64 31) ∧ w' = wx) := fun wx ox Fx => freeOutF wx ox 1 p 1024 r _ it8 S8 _ Fx hout
                  have HC : Hid (∀ wx ox, Step (FL 1) wr o8 wx ox → wx.cell? ⟨gb, q, none⟩ = some (.int .i64 (bs[q] : Nat))) := fun wx ox s => by rw [s.cell hgl8 (by rw [hg8]; exact nF _ (by omega))]; exact hcell8 q hqx
                  have ck := hcell8 q hqx
                  obtain ⟨x, hx⟩ : ∃ x, x = bs[q] := ⟨_, rfl⟩
                  rw [← hx] at hf1 HF2 HC ck
                  clear hcell8 hx F8 hnt lq et hout hlb hbl hxl
                  go_wp2_with fail
                  refine hf1.mono ?_
                  rintro e w9 ⟨rfl, o9, F9, S9⟩
                  have y1 := HC.out _ _ S9
                  clear hf1
                  go_wp2_with fail
                  refine (HF2.out _ _ F9).mono ?_
                  rintro e w10 ⟨rfl, rfl⟩
                  have G : GoneS w p r bs (.slice (some ⟨gb, 0, none⟩) r cb) (q + 1) w10 := ⟨o9, it8, S8, F9, G8, r8.step S9 (nF _ (by omega)), t8.trans (S9.posF (by omega))⟩
                  clear HF2 HC F9 S9 y1 r8 t8 G8 ck
                  go_wp2
                  go_roundw
                  case rel => (try ((repeat apply Exists.intro); refine ⟨?_, rfl⟩)); exact ⟨q + 1, by omega, by go_num, G⟩
                  case measure => simp [intOf]; omega
                · obtain rfl : q = r := by omega
                  have START5 : AgainS w p q bs (.slice (some ⟨gb, 0, none⟩) q cb) q wr := ⟨o8, it8, S8, F8, r8, t8⟩
                  clear F8 G8 r8 t8 hcell8
                  go_wp2
                  go_loopw [14] (fun u wr => ∃ m : Nat, m ≤ q ∧ u = .int .i64 ((m : Int) - 1) ∧ AgainS w p q bs (.slice (some ⟨gb, 0, none⟩) q cb) m wr) (fun u _ => (intOf u + 1).toNat)
                  case atStart => exact ⟨q, by omega, by go_num, START5⟩
                  case round =>
                    clear START5
                    obtain ⟨m, hm, rfl, o9, it9, S9, F9, r9, t9⟩ := hrel
                    obtain ⟨hg9, hgl9, hcap9, hmx9, hcell9⟩ := row_same r9 hbl hi1
                    unfold maxLen at hmx9
                    by_cases hm0 : m = 0
                    · subst hm0
                      have t10 := t9.old
                      clear F9 r9 t9 hcell9
                      go_wp2
                      go_ret
                      exact ⟨rfl, t10⟩
                    · obtain ⟨y, rfl⟩ : ∃ y, m = y + 1 := ⟨m - 1, by omega⟩
                      have hyx : y < bs.length := by omega
                      have et : bs.take (y + 1) = bs.take y ++ [bs[y]] := by rw [List.take_succ_eq_append_getElem hyx]
                      have by1 := (hlb y hyx).1
                      have ek : bs[y] - 1 + 1 = bs[y] := by omega
                      rw [et, ← ek] at F9
                      have hmk := makePopF wr o9 1 p 1024 q (bs.take y) (bs[y] - 1) it9 S9 ⟨(y : Nat), false, 0⟩ F9 ⟨by show -1099511627776 ≤ ((y : Nat) : Int); omega, by show ((y : Nat) : Int) ≤ 1099511627776; omega, by show 0 ≤ 255; omega⟩
                      rw [ek] at hmk
                      unfold itemV at hmk
                      have HC : Hid (∀ wx ox, Step (FL 1) wr o9 wx ox → wx.cell? ⟨gb, y, none⟩ = some (.int .i64 (bs[y] : Nat))) := fun wx ox s => by rw [s.cell hgl9 (by rw [hg9]; exact nF _ (by omega))]; exact hcell9 y hyx
                      obtain ⟨x, hx⟩ : ∃ x, x = bs[y] := ⟨_, rfl⟩
                      rw [← hx] at hmk HC
                      clear hcell9 hx F9 et by1 ek hlb hbl hxl
                      go_wp2_with fail
                      refine hmk.mono ?_
                      rintro e w10 ⟨rfl, o10, F10, S10⟩
                      have y1 := HC.out _ _ S10
                      have G : AgainS w p q bs (.slice (some ⟨gb, 0, none⟩) q cb) y w10 := ⟨o10, _, _, F10, r9.step S10 (nF _ (by omega)), t9.trans (S10.posF (by omega))⟩
                      clear hmk HC F10 S10 r9 t9
                      go_wp2
                      go_roundw
                      case rel => (try ((repeat apply Exists.intro); refine ⟨?_, rfl⟩)); exact ⟨y, by omega, by go_num, G⟩
                      case measure => (simp [intOf]) <;> omega
        · obtain ⟨q, rfl⟩ : ∃ q, m = q + 1 := ⟨m - 1, by omega⟩
          have hq : q < xs.length := by omega
          have cq := hcell q hq
          obtain ⟨L, hL⟩ : ∃ L, L = k - (q + 1) := ⟨_, rfl⟩
          rw [← hL] at b5 ⊢
          have hL2 : L + (q + 1) = k := by omega
          have b1 : L + 1 ≤ maxLen := by unfold maxLen; omega
          have hBl : (xs.drop (q + 1)).reverse.length = L := by rw [List.length_reverse, List.length_drop]; omega
          have hno : xs[q] ∉ (xs.drop (q + 1)).reverse := fun hm => by
            rw [List.mem_reverse] at hm
            obtain ⟨j, hj, hje⟩ := List.mem_drop_iff_getElem.1 hm
            have := (List.getElem_inj hnd).1 hje
            omega
          have hin : xs[q] ∈ xs := List.getElem_mem _
          have erev := rev_drop hq
          have HCQ : Hid (∀ wx ox, Step (fun k => FL 1 k ∨ k = 2003) wr o5 wx ox → wx.cell? ⟨g, q, none⟩ = some (.int .i64 (xs[q] : Nat))) := fun wx ox s => by rw [s.cell hgl (by rw [hg]; exact fun h => h.elim (nF _ (by omega)) (by omega))]; exact hcell q hq
          have lq := hlv q hq
          have hlB : ∀ h ∈ (xs.drop (q + 1)).reverse, Live k [] h := fun h hh => by
            rw [List.mem_reverse] at hh
            obtain ⟨j, hj, rfl⟩ := List.mem_iff_getElem.1 (List.mem_of_mem_drop hh)
            exact hlv j hj
          obtain ⟨x, hx⟩ : ∃ x, x = xs[q] := ⟨_, rfl⟩
          obtain ⟨B, hB⟩ : ∃ B, B = (xs.drop (q + 1)).reverse := ⟨_, rfl⟩
          rw [← hx] at cq hno hin erev HCQ lq
          rw [← hB] at b5 H5 hBl hno erev hlB
          have HE : Hid ((xs.drop q).reverse = B ++ [x]) := erev
          have HXL : Hid (xs.length = k) := hxl
          clear hcell hx hB hL erev hxl hlv hnd hme
          go_wp2_with (first | (at_builtin; refine wpList_append_lab rfl (.tmp 51) (.tmp 56) 23 rfl 3 ii (.int .i64 0) 1 8 Try.underlying23 hii hzi0 hzi1 hzi2 rfl (by decide) o5 2003 _ L (intsL B) rfl (b5.step (allocStep (fun _ => False) _ o5 _) (by simp)) ⟨wr.heap.size, 0, none⟩ 1 1 [.int .i64 (x : Nat)] rfl rfl (new_one_at (by simp) _ _) (by intro u hu; simp at hu; subst hu; rfl) (by decide) b1 (by omega) ?_) | go_in)
          intro g6 c6 w6 o6 r6 s6
          have u6 := (allocStep (fun k => k = 2003) wr o5 _).trans s6
          have F6 := F5.step u6 (fun k hk e => nF _ (by omega) (e ▸ hk))
          have a6 := r5.step u6 (by omega)
          have t6 := t5.trans (u6.mono (J := Pos) fun k hk => by unfold Pos; omega)
          have e6 : intsL B ++ [.int .i64 (x : Nat)] = intsL (B ++ [x]) := by simp [intsL]
          rw [e6] at r6
          have hBx : (B ++ [x]).length = L + 1 := by simp [hBl]
          obtain ⟨hg6, hgl6, hcap6, hmx6, hcell6⟩ := row_same r6 hBx (by omega)
          have cq6 := HCQ.out _ _ (u6.mono fun k hk => Or.inr hk)
          unfold maxLen at hmx6
          by_cases L0 : L = 0
          · subst L0
            obtain rfl : B = [] := List.length_eq_zero_iff.1 hBl
            have G : BackS w p k xs (.slice (some ⟨g, 0, none⟩) k cap) (.slice (some ⟨g6, 0, none⟩) 1 c6) q w6 := by
              refine ⟨o6, it5, S5, F6, by rw [HE.out]; exact Half.first H5 hin, a6, ?_, t6⟩
              rw [HE.out]
              have e : k - q = 0 + 1 := by omega
              rw [e]; exact r6
            have Gd : BackS w p k xs (.slice (some ⟨g, 0, none⟩) k cap) (.slice (some ⟨g6, 0, none⟩) (0 + 1) c6) q w6.drew := by
              obtain ⟨oo, itt, SS, Fq, Hq, rq, bq, tq⟩ := G
              exact ⟨oo, itt, SS, Fq.quiet ((Step.refl (fun _ => False) _ _).drew), Hq, rq.step ((Step.refl (fun _ => False) _ _).drew) id, bq.step ((Step.refl (fun _ => False) _ _).drew) id, tq.drew⟩
            clear G F5 H5 r5 b5 t5 s6 u6 F6 a6 t6 e6 r6 hcell6 HCQ hBl hBx
            go_wp2_with fail
            go_region
            all_goals
              go_wp2
              go_roundw
              case rel => (try ((repeat apply Exists.intro); refine ⟨?_, rfl⟩)); exact ⟨q, by omega, by go_num, Gd⟩
              case measure => (simp [intOf]) <;> omega
          · have hL1 : (0 : Int) < (L : Int) := by omega
            have hL3 : (1 : Int) < (L : Int) + 1 := by omega
            have hL4 : decide ((1 : Int) < (L : Int) + 1) = true := by simp; omega
            have c0 := hcell6 0 (by omega)
            have hb0 : (B ++ [x])[0] ∈ B := by
              rw [List.getElem_append_left (by omega)]; exact List.getElem_mem _
            obtain ⟨b0, hb0e⟩ : ∃ b0, b0 = (B ++ [x])[0] := ⟨_, rfl⟩
            rw [← hb0e] at c0 hb0
            have HJ : Hid (∀ wx ox, Fo wx ox 1 p 1024 k [] it5 S5 → Calls Try.prog 11 #[.pointer (some ⟨p, 0, none⟩), .int .i64 (b0 : Nat), .int .i64 (x : Nat)] wx fun e w' => e = .returned (.int .i64 0) ∧ ∃ o', Fo w' o' 1 p 1024 k [] it5 (joinS S5 b0 x) ∧ Step (FL 1) wx ox w' o') := fun wx ox Fx => joinInF wx ox 1 p 1024 k [] it5 S5 b0 x Fx (hlB _ hb0) lq (H5.ne hin hno hb0)
            have HN := H5.next hin hno hb0
            have HC : Hid (∀ wx ox, Step (FL 1) w6 o6 wx ox → wx.cell? ⟨g6, 0, none⟩ = some (.int .i64 (b0 : Nat)) ∧ wx.cell? ⟨g, q, none⟩ = some (.int .i64 (x : Nat))) := fun wx ox s => ⟨by rw [s.cell hgl6 (by rw [hg6]; exact nF _ (by omega))]; exact c0, HCQ.out _ _ ((u6.mono fun k hk => Or.inr hk).trans (s.mono fun k hk => Or.inl hk))⟩
            have S6d : Step (FL 1) w6 o6 w6.drew o6 := (Step.refl _ _ _).drew
            have F6d := F6.quiet ((Step.refl (fun _ => False) w6 o6).drew)
            clear F5 r5 b5 t5 s6 u6 F6 e6 hcell6 HCQ hBl hb0e H5 hlB lq
            go_wp2_with fail
            go_region_held (fun wx => wx.cell? ⟨g6, 0, none⟩ = some (.int .i64 (b0 : Nat)) ∧ wx.cell? ⟨g, q, none⟩ = some (.int .i64 (x : Nat))) (first | (with_reducible exact HC.out _ _ S7') | (with_reducible exact HC.out _ _ S6d)) ((go_at_call 11; refine (HJ.out _ _ F6d).mono ?_; rintro e w7 ⟨rfl, o7, F7, S7⟩; have S7' := S6d.trans S7))
            all_goals
              have G : BackS w p k xs (.slice (some ⟨g, 0, none⟩) k cap) (.slice (some ⟨g6, 0, none⟩) (L + 1) c6) q w7 := by
                refine ⟨o7, it5, _, F7, by rw [HE.out]; exact HN, a6.step S7' (nF _ (by omega)), ?_, t6.trans (S7'.posF (by omega))⟩
                rw [HE.out]
                have e : k - q = L + 1 := by omega
                rw [e]; exact r6.step S7' (nF _ (by omega))
              clear F7 S7 S7' S6d F6d HC HJ HN a6 r6 t6 HE
              go_wp2
              go_roundw
              case rel => (try ((repeat apply Exists.intro); refine ⟨?_, rfl⟩)); exact ⟨q, by omega, by go_num, G⟩
              case measure => (simp [intOf]) <;> omega

end Go.Proofs.Ythnocaiehhcdeab
