/- The law VsetLaws, walked: the laws of sets, of any three. -/
import Derived.Test.YtabkbldhiigcgaaDoorAwake9
namespace Go.Proofs.YtabkbldhiigcgaaDoor
open Go.ChangeShapes Go.WideShapes Go.ChangeAt Go.RowKit Go.Maps
set_option linter.unusedVariables false
set_option linter.unusedSimpArgs false

/-- Three sets in their boxes. -/
def Three (w0 wx : World) (p q r a b c : Nat) : Prop :=
  wx.cell? ⟨p, 0, none⟩ = some (.int .u64 (a : Nat)) ∧ wx.cell? ⟨q, 0, none⟩ = some (.int .u64 (b : Nat)) ∧ wx.cell? ⟨r, 0, none⟩ = some (.int .u64 (c : Nat)) ∧ p < wx.heap.size ∧ q < wx.heap.size ∧ r < wx.heap.size ∧ Below w0.heap.size w0 wx
theorem Three.below {w0 wx wy : World} {p q r a b c : Nat} (h : Three w0 wx p q r a b c) (k : Below wx.heap.size wx wy) : Three w0 wy p q r a b c := by
  obtain ⟨h1, h2, h3, h4, h5, h6, h7⟩ := h
  exact ⟨(k.cell (p := ⟨p, 0, none⟩) h4).trans h1, (k.cell (p := ⟨q, 0, none⟩) h5).trans h2, (k.cell (p := ⟨r, 0, none⟩) h6).trans h3, Nat.lt_of_lt_of_le h4 k.size, Nat.lt_of_lt_of_le h5 k.size, Nat.lt_of_lt_of_le h6 k.size, bjoin h7 k⟩

theorem law_a (a b c : Nat) : a &&& (b ||| c) = a &&& b ||| a &&& c := Nat.eq_of_testBit_eq fun i => by
  simp only [Nat.testBit_and, Nat.testBit_or]; cases a.testBit i <;> cases b.testBit i <;> cases c.testBit i <;> rfl
theorem law_b (a b c : Nat) : a ||| b &&& c = (a ||| b) &&& (a ||| c) := Nat.eq_of_testBit_eq fun i => by
  simp only [Nat.testBit_and, Nat.testBit_or]; cases a.testBit i <;> cases b.testBit i <;> cases c.testBit i <;> rfl

theorem law_c (a b c : Nat) (ha : a < top64) (hb : b < top64) (hc : c < top64) : mns a (b ||| c) = mns (mns a b) c := Nat.eq_of_testBit_eq fun i => by
  rw [mns_bit' _ _ ha (or_lt hb hc), mns_bit' _ _ (mns_lt ha) hc, mns_bit' _ _ ha hb, Nat.testBit_or]; cases a.testBit i <;> cases b.testBit i <;> cases c.testBit i <;> rfl
theorem law_d (a b c : Nat) (ha : a < top64) (hb : b < top64) (hc : c < top64) : mns a (b &&& c) = mns a b ||| mns a c := Nat.eq_of_testBit_eq fun i => by
  rw [mns_bit' _ _ ha (and_lt hb), Nat.testBit_or, mns_bit' _ _ ha hb, mns_bit' _ _ ha hc, Nat.testBit_and]; cases a.testBit i <;> cases b.testBit i <;> cases c.testBit i <;> rfl
theorem law_e (a b : Nat) (ha : a < top64) (hb : b < top64) : mns a b &&& b = 0 := Nat.eq_of_testBit_eq fun i => by
  rw [Nat.testBit_and, mns_bit' _ _ ha hb, Nat.zero_testBit]; cases a.testBit i <;> cases b.testBit i <;> rfl
theorem law_f (a b : Nat) (ha : a < top64) (hb : b < top64) : mns a b ||| b &&& a = a := Nat.eq_of_testBit_eq fun i => by
  rw [Nat.testBit_or, Nat.testBit_and, mns_bit' _ _ ha hb]; cases a.testBit i <;> cases b.testBit i <;> rfl
theorem law_g (a b : Nat) : ∃ sm : Nat, IntKind.i64.wrap ((cd (a ||| b) : Int) + (cd (a &&& b) : Int)) = (sm : Nat) ∧ IntKind.i64.wrap ((cd a : Int) + (cd b : Int)) = (sm : Nat) := by
  have h := cd_both a b
  have h1 := cd_le a
  have h2 := cd_le b
  refine ⟨cd a + cd b, ?_, ?_⟩
  · rw [IntKind.wrap_i64]; omega
  · rw [IntKind.wrap_i64]; omega
theorem hid_and {A B : Prop} (ha : A) (hb : B) : Hid (A ∧ B) := ⟨ha, hb⟩
theorem law_h (a m : Nat) : (a ||| bt m = a) ↔ a.testBit m = true := by
  constructor
  · intro h
    rw [← h, Nat.testBit_or, bt_bit]; simp
  · intro h
    apply Nat.eq_of_testBit_eq
    intro i
    rw [Nat.testBit_or, bt_bit]
    by_cases e : m = i
    · subst e; simp [h]
    · simp [e]
theorem law_i (a m : Nat) (ha : a < top64) (hm : m < 64) : (mns a (bt m) = a) ↔ a.testBit m = false := by
  constructor
  · intro h
    rw [← h, mns_bit' _ _ ha (bt_lt hm), bt_bit]; simp
  · intro h
    apply Nat.eq_of_testBit_eq
    intro i
    rw [mns_bit' _ _ ha (bt_lt hm), bt_bit]
    by_cases e : m = i
    · subst e; simp [h]
    · simp [e]
set_option maxHeartbeats 8000000 in
set_option maxRecDepth 100000 in
theorem laws_walk (w : World) (a0 a1 a2 : Option Addr) (n0 c0 n1 c1 n2 c2 : Nat) (f0 f1 f2 : Nat → Int) (n : Int) (h0 : Ints w a0 n0 f0) (h1 : Ints w a1 n1 f1) (h2 : Ints w a2 n2 f2) (m0 : n0 ≤ maxLen) (m1 : n1 ≤ maxLen) (m2 : n2 ≤ maxLen)
    (hn1 : -9223372036854775808 ≤ n) (hn2 : n ≤ 9223372036854775807) (hT : Tz w) (hW : Wd w) :
    Calls Tryd.prog 4 #[.slice a0 n0 c0, .slice a1 n1 c1, .slice a2 n2 c2, .int .i64 n] w fun e w' => e = .returned (.bool true) ∧ Below w.heap.size w w' := by
  go_enter Tryd.func4, Tryd.ntmps4
  go_wp2_with fail
  refine (awake_c w hT hW).mono ?_
  rintro e w1 ⟨rfl, hb1⟩
  have H1 := h0.below hb1 (Nat.le_refl _)
  go_wp2_with fail
  refine (ofl_c w1 a0 n0 c0 f0 H1 m0).mono ?_
  rintro e w2 ⟨a, rfl, ha0, hb2⟩
  have ha := ha0.1
  have B2 := bjoin hb1 hb2
  have B2' := bal B2 (.cells #[.int .u64 (a : Nat)] 27)
  obtain ⟨p, hp⟩ : ∃ p, p = w2.heap.size := ⟨_, rfl⟩
  have HP : Hid (p = w2.heap.size) := hp
  have ka : (w2.alloc (.cells #[.int .u64 (a : Nat)] 27)).cell? ⟨p, 0, none⟩ = some (.int .u64 (a : Nat)) ∧ p < (w2.alloc (.cells #[.int .u64 (a : Nat)] 27)).heap.size := by rw [hp]; exact ⟨box_cell _ _ _, by simp⟩
  obtain ⟨w3, hw3⟩ : ∃ w3, w3 = w2.alloc (.cells #[.int .u64 (a : Nat)] 27) := ⟨_, rfl⟩
  rw [← hw3] at ka B2'
  have H3 := h1.below B2' (Nat.le_refl _)
  clear hp H1 ha0 hb1 hb2 B2 h0
  go_wp2_with fail
  rw [← hw3, ← HP.out]
  clear hw3 HP
  refine (ofl_c w3 a1 n1 c1 f1 H3 m1).mono ?_
  rintro e w4 ⟨b, rfl, hb0, hb4⟩
  have hb := hb0.1
  have B4 := bjoin B2' hb4
  have ka4 : w4.cell? ⟨p, 0, none⟩ = some (.int .u64 (a : Nat)) ∧ p < w4.heap.size := ⟨(hb4.cell (p := ⟨p, 0, none⟩) ka.2).trans ka.1, Nat.lt_of_lt_of_le ka.2 hb4.size⟩
  have B5 := bal (b0 w4) (.cells #[.int .u64 (b : Nat)] 27)
  obtain ⟨q, hq⟩ : ∃ p, p = w4.heap.size := ⟨_, rfl⟩
  have HQ : Hid (q = w4.heap.size) := hq
  have kb : (w4.alloc (.cells #[.int .u64 (b : Nat)] 27)).cell? ⟨q, 0, none⟩ = some (.int .u64 (b : Nat)) ∧ q < (w4.alloc (.cells #[.int .u64 (b : Nat)] 27)).heap.size := by rw [hq]; exact ⟨box_cell _ _ _, by simp⟩
  obtain ⟨w5, hw5⟩ : ∃ w5, w5 = w4.alloc (.cells #[.int .u64 (b : Nat)] 27) := ⟨_, rfl⟩
  rw [← hw5] at kb B5
  have ka5 : w5.cell? ⟨p, 0, none⟩ = some (.int .u64 (a : Nat)) ∧ p < w5.heap.size := ⟨(B5.cell (p := ⟨p, 0, none⟩) ka4.2).trans ka4.1, Nat.lt_of_lt_of_le ka4.2 B5.size⟩
  have B5' := bjoin B4 B5
  have H5 := h2.below B5' (Nat.le_refl _)
  clear hq H3 hb0 hb4 B4 B2' ka ka4 B5 h1
  go_wp2_with fail
  rw [← hw5, ← HQ.out]
  clear hw5 HQ
  refine (ofl_c w5 a2 n2 c2 f2 H5 m2).mono ?_
  rintro e w6 ⟨c, rfl, hc0, hb6⟩
  have hc := hc0.1
  have B6 := bjoin B5' hb6
  have B7 := bal hb6 (.cells #[.int .u64 (c : Nat)] 27)
  obtain ⟨r, hr⟩ : ∃ p, p = w6.heap.size := ⟨_, rfl⟩
  have HR : Hid (r = w6.heap.size) := hr
  have kc : (w6.alloc (.cells #[.int .u64 (c : Nat)] 27)).cell? ⟨r, 0, none⟩ = some (.int .u64 (c : Nat)) ∧ r < (w6.alloc (.cells #[.int .u64 (c : Nat)] 27)).heap.size := by rw [hr]; exact ⟨box_cell _ _ _, by simp⟩
  obtain ⟨w7, hw7⟩ : ∃ w7, w7 = w6.alloc (.cells #[.int .u64 (c : Nat)] 27) := ⟨_, rfl⟩
  rw [← hw7] at kc B7
  have T7 : Three w w7 p q r a b c := ⟨(B7.cell (p := ⟨p, 0, none⟩) ka5.2).trans ka5.1, (B7.cell (p := ⟨q, 0, none⟩) kb.2).trans kb.1, kc.1, Nat.lt_of_lt_of_le ka5.2 B7.size, Nat.lt_of_lt_of_le kb.2 B7.size, kc.2, bjoin B5' B7⟩
  clear hr H5 hc0 hb6 B6 B5' ka5 kb kc B7 h2
  go_wp2_with fail
  rw [← hw7, ← HR.out]
  clear hw7 HR
  refine (pick_c n 64 w7 hn1 hn2 (by omega) (by omega)).mono ?_
  rintro e w8 ⟨rfl, rfl⟩
  have hm := pk_lt n 64 (by omega)
  generalize pk n 64 = m at hm
  clear hn1 hn2
  go_upto_region 6 with fail
  have hU : ∀ x y, x < top64 ∧ y < top64 → ∀ w, Calls Tryd.prog 16 #[sv x, sv y] w fun e w' => e = .returned (sv (x ||| y)) ∧ Below w.heap.size w w' := fun x y h w => union_c x y w h.1 h.2
  have hM : ∀ x y, x < top64 ∧ y < top64 → ∀ w, Calls Tryd.prog 15 #[sv x, sv y] w fun e w' => e = .returned (sv (x &&& y)) ∧ Below w.heap.size w w' := fun x y h w => meet_c x y w h.1 h.2
  have hN : ∀ x y, x < top64 ∧ y < top64 → ∀ w, Calls Tryd.prog 17 #[sv x, sv y] w fun e w' => e = .returned (sv (mns x y)) ∧ Below w.heap.size w w' := fun x y h w => minus_c x y w h.1 h.2
  have hL : ∀ x, x < top64 → ∀ w, Calls Tryd.prog 18 #[sv x] w fun e w' => e = .returned (.int .i64 (cd x)) ∧ Below w.heap.size w w' := fun x h w => len_c x w h
  have hL : ∀ x, x < top64 → ∀ w, Calls Tryd.prog 18 #[sv x] w fun e w' => e = .returned (.int .i64 (cd x)) ∧ Below w.heap.size w w' := fun x h w => len_c x w h
  go_cut [13] (fun v wx => v = .bool true ∧ Three w wx p q r a b c)
  case first =>
    as_aux_lemma =>
      have e1 := law_a a b c
      have e2 := law_b a b c
      have TT : Three w w8.drew p q r a b c := ⟨T7.1, T7.2.1, T7.2.2.1, T7.2.2.2.1, T7.2.2.2.2.1, T7.2.2.2.2.2.1, T7.2.2.2.2.2.2.drew⟩
      have kz : w8.drew.cell? ⟨p, 0, none⟩ = some (.int .u64 (a : Nat)) ∧ w8.drew.cell? ⟨q, 0, none⟩ = some (.int .u64 (b : Nat)) ∧ w8.drew.cell? ⟨r, 0, none⟩ = some (.int .u64 (c : Nat)) := And.intro TT.1 (And.intro TT.2.1 TT.2.2.1)
      have ky : w8.cell? ⟨p, 0, none⟩ = some (.int .u64 (a : Nat)) ∧ w8.cell? ⟨q, 0, none⟩ = some (.int .u64 (b : Nat)) ∧ w8.cell? ⟨r, 0, none⟩ = some (.int .u64 (c : Nat)) := kz
      clear T7
      go_wp2_with fail
      go_region_held (fun wx => wx.cell? ⟨p, 0, none⟩ = some (.int .u64 (a : Nat)) ∧ wx.cell? ⟨q, 0, none⟩ = some (.int .u64 (b : Nat)) ∧ wx.cell? ⟨r, 0, none⟩ = some (.int .u64 (c : Nat))) (first | (with_reducible exact ky) | (with_reducible exact kz)) (first | (go_at_call 16; refine (hU _ _ (by constructor <;> repeat' (first | exact ha | exact hb | exact hc | apply or_lt | apply and_lt | apply mns_lt)) _).mono ?_; rintro e wn ⟨rfl, hbn⟩; have TT := TT.below hbn; have kz := And.intro TT.1 (And.intro TT.2.1 TT.2.2.1)) | (go_at_call 15; refine (hM _ _ (by constructor <;> repeat' (first | exact ha | exact hb | exact hc | apply or_lt | apply and_lt | apply mns_lt)) _).mono ?_; rintro e wn ⟨rfl, hbn⟩; have TT := TT.below hbn; have kz := And.intro TT.1 (And.intro TT.2.1 TT.2.2.1)))
      clear hU hM hN hL
      go_wp2
      go_meet
      exact ⟨rfl, TT⟩
  case rest =>
  clear T7
  obtain ⟨rfl, T8⟩ := hcut
  obtain ⟨w9, rfl⟩ : ∃ x, x = wc := ⟨_, rfl⟩
  go_upto_region 7 with fail
  go_cut [14] (fun v wx => v = .bool true ∧ Three w wx p q r a b c)
  case first =>
    as_aux_lemma =>
      have e1 := law_c a b c ha hb hc
      have e2 := law_d a b c ha hb hc
      have TT : Three w w9.drew p q r a b c := ⟨T8.1, T8.2.1, T8.2.2.1, T8.2.2.2.1, T8.2.2.2.2.1, T8.2.2.2.2.2.1, T8.2.2.2.2.2.2.drew⟩
      have kz : w9.drew.cell? ⟨p, 0, none⟩ = some (.int .u64 (a : Nat)) ∧ w9.drew.cell? ⟨q, 0, none⟩ = some (.int .u64 (b : Nat)) ∧ w9.drew.cell? ⟨r, 0, none⟩ = some (.int .u64 (c : Nat)) := And.intro TT.1 (And.intro TT.2.1 TT.2.2.1)
      have ky : w9.cell? ⟨p, 0, none⟩ = some (.int .u64 (a : Nat)) ∧ w9.cell? ⟨q, 0, none⟩ = some (.int .u64 (b : Nat)) ∧ w9.cell? ⟨r, 0, none⟩ = some (.int .u64 (c : Nat)) := kz
      clear T8
      go_wp2_with fail
      go_region_held (fun wx => wx.cell? ⟨p, 0, none⟩ = some (.int .u64 (a : Nat)) ∧ wx.cell? ⟨q, 0, none⟩ = some (.int .u64 (b : Nat)) ∧ wx.cell? ⟨r, 0, none⟩ = some (.int .u64 (c : Nat))) (first | (with_reducible exact ky) | (with_reducible exact kz)) (first | (go_at_call 16; refine (hU _ _ (by constructor <;> repeat' (first | exact ha | exact hb | exact hc | apply or_lt | apply and_lt | apply mns_lt)) _).mono ?_; rintro e wn ⟨rfl, hbn⟩; have TT := TT.below hbn; have kz := And.intro TT.1 (And.intro TT.2.1 TT.2.2.1)) | (go_at_call 15; refine (hM _ _ (by constructor <;> repeat' (first | exact ha | exact hb | exact hc | apply or_lt | apply and_lt | apply mns_lt)) _).mono ?_; rintro e wn ⟨rfl, hbn⟩; have TT := TT.below hbn; have kz := And.intro TT.1 (And.intro TT.2.1 TT.2.2.1)) | (go_at_call 17; refine (hN _ _ (by constructor <;> repeat' (first | exact ha | exact hb | exact hc | apply or_lt | apply and_lt | apply mns_lt)) _).mono ?_; rintro e wn ⟨rfl, hbn⟩; have TT := TT.below hbn; have kz := And.intro TT.1 (And.intro TT.2.1 TT.2.2.1)))
      clear hU hM hN hL
      go_wp2
      go_meet
      exact ⟨rfl, TT⟩
  case rest =>
  clear T8
  obtain ⟨rfl, T9⟩ := hcut
  obtain ⟨w10, rfl⟩ : ∃ x, x = wc := ⟨_, rfl⟩
  go_upto_region 8 with fail
  go_cut [15] (fun v wx => v = .bool true ∧ Three w wx p q r a b c)
  case first =>
    as_aux_lemma =>
      have e1 := Nat.or_comm a b
      have e2 := Nat.and_comm a b
      have e3 := law_e a b ha hb
      have e4 := law_f a b ha hb
      have TT : Three w w10.drew p q r a b c := ⟨T9.1, T9.2.1, T9.2.2.1, T9.2.2.2.1, T9.2.2.2.2.1, T9.2.2.2.2.2.1, T9.2.2.2.2.2.2.drew⟩
      have kz : w10.drew.cell? ⟨p, 0, none⟩ = some (.int .u64 (a : Nat)) ∧ w10.drew.cell? ⟨q, 0, none⟩ = some (.int .u64 (b : Nat)) ∧ w10.drew.cell? ⟨r, 0, none⟩ = some (.int .u64 (c : Nat)) := And.intro TT.1 (And.intro TT.2.1 TT.2.2.1)
      have ky : w10.cell? ⟨p, 0, none⟩ = some (.int .u64 (a : Nat)) ∧ w10.cell? ⟨q, 0, none⟩ = some (.int .u64 (b : Nat)) ∧ w10.cell? ⟨r, 0, none⟩ = some (.int .u64 (c : Nat)) := kz
      clear T9
      go_wp2_with fail
      go_region_held (fun wx => wx.cell? ⟨p, 0, none⟩ = some (.int .u64 (a : Nat)) ∧ wx.cell? ⟨q, 0, none⟩ = some (.int .u64 (b : Nat)) ∧ wx.cell? ⟨r, 0, none⟩ = some (.int .u64 (c : Nat))) (first | (with_reducible exact ky) | (with_reducible exact kz)) (first | (go_at_call 16; refine (hU _ _ (by constructor <;> repeat' (first | exact ha | exact hb | exact hc | apply or_lt | apply and_lt | apply mns_lt)) _).mono ?_; rintro e wn ⟨rfl, hbn⟩; have TT := TT.below hbn; have kz := And.intro TT.1 (And.intro TT.2.1 TT.2.2.1)) | (go_at_call 15; refine (hM _ _ (by constructor <;> repeat' (first | exact ha | exact hb | exact hc | apply or_lt | apply and_lt | apply mns_lt)) _).mono ?_; rintro e wn ⟨rfl, hbn⟩; have TT := TT.below hbn; have kz := And.intro TT.1 (And.intro TT.2.1 TT.2.2.1)) | (go_at_call 17; refine (hN _ _ (by constructor <;> repeat' (first | exact ha | exact hb | exact hc | apply or_lt | apply and_lt | apply mns_lt)) _).mono ?_; rintro e wn ⟨rfl, hbn⟩; have TT := TT.below hbn; have kz := And.intro TT.1 (And.intro TT.2.1 TT.2.2.1)))
      clear hU hM hN hL
      go_wp2
      go_meet
      exact ⟨rfl, TT⟩
  case rest =>
  clear T9
  obtain ⟨rfl, T10⟩ := hcut
  obtain ⟨w11, rfl⟩ : ∃ x, x = wc := ⟨_, rfl⟩
  go_upto_region 9 with fail
  go_cut [16] (fun v wx => v = .bool true ∧ Three w wx p q r a b c)
  case first =>
    as_aux_lemma =>
      obtain ⟨sm, hs1, hs2⟩ := law_g a b
      have TT : Three w w11.drew p q r a b c := ⟨T10.1, T10.2.1, T10.2.2.1, T10.2.2.2.1, T10.2.2.2.2.1, T10.2.2.2.2.2.1, T10.2.2.2.2.2.2.drew⟩
      have kz : w11.drew.cell? ⟨p, 0, none⟩ = some (.int .u64 (a : Nat)) ∧ w11.drew.cell? ⟨q, 0, none⟩ = some (.int .u64 (b : Nat)) ∧ w11.drew.cell? ⟨r, 0, none⟩ = some (.int .u64 (c : Nat)) := And.intro TT.1 (And.intro TT.2.1 TT.2.2.1)
      have ky : w11.cell? ⟨p, 0, none⟩ = some (.int .u64 (a : Nat)) ∧ w11.cell? ⟨q, 0, none⟩ = some (.int .u64 (b : Nat)) ∧ w11.cell? ⟨r, 0, none⟩ = some (.int .u64 (c : Nat)) := kz
      clear T10
      go_wp2_with fail
      go_region_held (fun wx => wx.cell? ⟨p, 0, none⟩ = some (.int .u64 (a : Nat)) ∧ wx.cell? ⟨q, 0, none⟩ = some (.int .u64 (b : Nat)) ∧ wx.cell? ⟨r, 0, none⟩ = some (.int .u64 (c : Nat))) (first | (with_reducible exact ky) | (with_reducible exact kz)) (first | (go_at_call 16; refine (hU _ _ (by constructor <;> repeat' (first | exact ha | exact hb | exact hc | apply or_lt | apply and_lt | apply mns_lt)) _).mono ?_; rintro e wn ⟨rfl, hbn⟩; have TT := TT.below hbn; have kz := And.intro TT.1 (And.intro TT.2.1 TT.2.2.1)) | (go_at_call 15; refine (hM _ _ (by constructor <;> repeat' (first | exact ha | exact hb | exact hc | apply or_lt | apply and_lt | apply mns_lt)) _).mono ?_; rintro e wn ⟨rfl, hbn⟩; have TT := TT.below hbn; have kz := And.intro TT.1 (And.intro TT.2.1 TT.2.2.1)) | (go_at_call 18; refine (hL _ (by repeat' (first | exact ha | exact hb | exact hc | apply or_lt | apply and_lt | apply mns_lt)) _).mono ?_; rintro e wn ⟨rfl, hbn⟩; have TT := TT.below hbn; have kz := And.intro TT.1 (And.intro TT.2.1 TT.2.2.1)))
      clear hU hM hN hL
      go_wp2
      go_meet
      exact ⟨rfl, TT⟩
  case rest =>
  clear T10
  obtain ⟨rfl, T11⟩ := hcut
  obtain ⟨w12, rfl⟩ : ∃ x, x = wc := ⟨_, rfl⟩
  obtain ⟨k1, k2, k3, l1, l2, l3, BB⟩ := T11
  clear hU hL k3 l3 hc
  have wi := with_yes a m
  have wo := without_yes a m
  have hza := or_lt ha (bt_lt hm)
  have hzb := mns_lt (y := bt m) ha
  have bz1 : (a ||| bt m).testBit m = true := by rw [Nat.testBit_or, bt_bit]; simp
  have bz2 : (mns a (bt m)).testBit m = false := by rw [mns_bit' _ _ ha (bt_lt hm), bt_bit]; simp
  have bu : (a ||| b).testBit m = (a.testBit m || b.testBit m) := Nat.testBit_or ..
  have bm : (a &&& b).testBit m = (a.testBit m && b.testBit m) := Nat.testBit_and ..
  have bn : (mns a b).testBit m = (a.testBit m && !b.testBit m) := mns_bit' _ _ ha hb m
  have eq1 : (a ||| bt m = a) ↔ a.testBit m = true := law_h a m
  have eq2 : (mns a (bt m) = a) ↔ a.testBit m = false := law_i a m ha hm
  have hua := has_yes a m
  have hub := has_yes b m
  have huu := has_yes (a ||| b) m
  have hum := has_yes (a &&& b) m
  have hun := has_yes (mns a b) m
  have hw1 := has_yes (a ||| bt m) m
  have hw2 := has_yes (mns a (bt m)) m
  rw [bu] at huu
  rw [bm] at hum
  rw [bn] at hun
  rw [bz1] at hw1
  rw [bz2] at hw2
  have hou := or_lt ha hb
  have hom := and_lt (y := b) ha
  have hon := mns_lt (y := b) ha
  have uc := union_c a b
  have mc := meet_c a b
  have nc := minus_c a b
  clear hM hN bu bm bn bz1 bz2
  generalize a ||| b = ub at *
  generalize a &&& b = mb at *
  generalize mns a b = nb at *
  generalize a ||| bt m = z1 at *
  generalize mns a (bt m) = z2 at *
  generalize a.testBit m = pa at *
  generalize b.testBit m = pb at *
  have HK : Hid (∀ wy, Below w12.heap.size w12 wy → wy.cell? ⟨p, 0, none⟩ = some (.int .u64 (a : Nat)) ∧ wy.cell? ⟨q, 0, none⟩ = some (.int .u64 (b : Nat)) ∧ Below w.heap.size w wy) := fun wy h => ⟨(h.cell (p := ⟨p, 0, none⟩) l1).trans k1, (h.cell (p := ⟨q, 0, none⟩) l2).trans k2, bjoin BB h⟩
  clear BB l1 l2
  cases pa
  all_goals
    cases pb
    all_goals
      as_aux_lemma =>
        simp only [Bool.false_eq_true, iff_false, iff_true, Bool.true_eq_false, Bool.or_true, Bool.or_false, Bool.true_or, Bool.false_or, Bool.and_true, Bool.and_false, Bool.not_true, Bool.not_false] at eq1 eq2 huu hum hun
        have HE := hid_and eq1 eq2
        clear eq1 eq2
        go_wp2_with fail
        refine (hua _ ha hm).mono ?_
        rintro e v1 ⟨rfl, g1⟩
        have BB := g1
        obtain ⟨x1, x2, _⟩ := HK.out _ BB
        go_wp2_with fail
        refine (hub _ hb hm).mono ?_
        rintro e v2 ⟨rfl, g2⟩
        have BB := bjoin BB g2
        obtain ⟨x1, x2, _⟩ := HK.out _ BB
        go_wp2_with fail
        refine (uc _ ha hb).mono ?_
        rintro e v3 ⟨rfl, g3⟩
        have BB := bjoin BB g3
        obtain ⟨x1, x2, _⟩ := HK.out _ BB
        go_wp2_with fail
        refine (huu _ hou hm).mono ?_
        rintro e v4 ⟨rfl, g4⟩
        have BB := bjoin BB g4
        obtain ⟨x1, x2, _⟩ := HK.out _ BB
        go_wp2_with fail
        refine (mc _ ha hb).mono ?_
        rintro e v5 ⟨rfl, g5⟩
        have BB := bjoin BB g5
        obtain ⟨x1, x2, _⟩ := HK.out _ BB
        go_wp2_with fail
        refine (hum _ hom hm).mono ?_
        rintro e v6 ⟨rfl, g6⟩
        have BB := bjoin BB g6
        obtain ⟨x1, x2, _⟩ := HK.out _ BB
        go_wp2_with fail
        refine (nc _ ha hb).mono ?_
        rintro e v7 ⟨rfl, g7⟩
        have BB := bjoin BB g7
        obtain ⟨x1, x2, _⟩ := HK.out _ BB
        go_wp2_with fail
        refine (hun _ hon hm).mono ?_
        rintro e v8 ⟨rfl, g8⟩
        have BB := bjoin BB g8
        obtain ⟨x1, x2, _⟩ := HK.out _ BB
        clear g1 g2 g3 g4 g5 g6 g7 g8
        go_wp2_with fail
        refine (wi _ ha hm).mono ?_
        rintro e v9 ⟨rfl, g9⟩
        have BB := bal (bjoin BB g9) (.cells #[.int .u64 (z1 : Nat)] 27)
        obtain ⟨x1, x2, _⟩ := HK.out _ BB
        have y1 := box_cell v9 (z1 : Nat) 27
        have y1l : v9.heap.size < (v9.alloc (.cells #[.int .u64 (z1 : Nat)] 27)).heap.size := by simp
        obtain ⟨b1, hb1⟩ : ∃ b, b = v9.heap.size := ⟨_, rfl⟩
        have HB1 : Hid (b1 = v9.heap.size) := hb1
        rw [← hb1] at y1 y1l
        obtain ⟨v10, hv10⟩ : ∃ v, v = v9.alloc (.cells #[.int .u64 (z1 : Nat)] 27) := ⟨_, rfl⟩
        rw [← hv10] at BB x1 x2 y1 y1l
        clear hb1
        go_upto_region 14 with fail
        rw [← hv10, ← HB1.out]
        clear hv10 HB1
        go_wp2_with fail
        refine (wo _ ha hm).mono ?_
        rintro e v11 ⟨rfl, g11⟩
        have y2 := (g11.cell (p := ⟨b1, 0, none⟩) y1l).trans y1
        have y2l := Nat.lt_of_lt_of_le y1l g11.size
        have BB := bjoin BB g11
        have g12 := bal (b0 v11) (.cells #[.int .u64 (z2 : Nat)] 27)
        have BB := bjoin BB g12
        obtain ⟨x1, x2, _⟩ := HK.out _ BB
        have y3 := (g12.cell (p := ⟨b1, 0, none⟩) y2l).trans y2
        have y3l := Nat.lt_of_lt_of_le y2l g12.size
        have z3 := box_cell v11 (z2 : Nat) 27
        have z3l : v11.heap.size < (v11.alloc (.cells #[.int .u64 (z2 : Nat)] 27)).heap.size := by simp
        obtain ⟨b2, hb2⟩ : ∃ b, b = v11.heap.size := ⟨_, rfl⟩
        have HB2 : Hid (b2 = v11.heap.size) := hb2
        rw [← hb2] at z3 z3l
        obtain ⟨v12, hv12⟩ : ∃ v, v = v11.alloc (.cells #[.int .u64 (z2 : Nat)] 27) := ⟨_, rfl⟩
        rw [← hv12] at BB x1 x2 y3 y3l z3 z3l
        clear hb2 g11 g12 y1 y1l y2 y2l
        go_upto_region 15 with fail
        rw [← hv12, ← HB2.out]
        clear hv12 HB2
        go_wp2_with fail
        refine (hw1 _ hza hm).mono ?_
        rintro e v13 ⟨rfl, g13⟩
        have y4 := (g13.cell (p := ⟨b1, 0, none⟩) y3l).trans y3
        have z4 := (g13.cell (p := ⟨b2, 0, none⟩) z3l).trans z3
        have y4l := Nat.lt_of_lt_of_le y3l g13.size
        have z4l := Nat.lt_of_lt_of_le z3l g13.size
        have BB := bjoin BB g13
        go_wp2_with fail
        refine (hw2 _ hzb hm).mono ?_
        rintro e v14 ⟨rfl, g14⟩
        have y5 := (g14.cell (p := ⟨b1, 0, none⟩) y4l).trans y4
        have z5 := (g14.cell (p := ⟨b2, 0, none⟩) z4l).trans z4
        have BB := bjoin BB g14
        obtain ⟨x1, x2, RR⟩ := HK.out _ BB
        clear y3 y3l z3 z3l y4 y4l z4 z4l g13 g14 BB HK
        obtain ⟨eq1, eq2⟩ := HE.out
        clear HE
        go_wp2
        go_ret
        exact ⟨rfl, RR⟩
end Go.Proofs.YtabkbldhiigcgaaDoor
