/- The walk of the law SplayAsked. -/
import Derived.Test.YthnocaiehhcdeaaOpsBase
namespace Go.Proofs.Ythnocaiehhcdeaa
open Go.ChangeShapes Go.WideShapes Go.ChangeAt Go.RowKit
set_option linter.unusedVariables false

/-- Two forests of one plain state. -/
def AskS (w : World) (pa pb : Nat) (wr : World) : Prop := ∃ o' s, FoS wr o' 1 pa 60 s ∧ FoS wr o' 1301 pb 60 s ∧ Step Pos w o0 wr o'
/-- The one is changed, the other not yet; the answer lies in a block. -/
def AskI (w : World) (pa pb b : Nat) (r1 r2 : Int) (s t : Sta) (wr : World) : Prop := ∃ o', FoS wr o' 1 pa 60 t ∧ FoS wr o' 1301 pb 60 s ∧ Blk wr o' 5001 b (.cells #[.int .i64 r1, .int .i64 r2] 69 (0, 0)) ∧ Step Pos w o0 wr o'
theorem TLpos {L : Nat} (hL : 0 < L) {k : Nat} (h : TL L k) : Pos k := by rcases h with h | h; exact Nat.lt_of_lt_of_le hL h.1; exact h ▸ (by unfold Pos; omega)
theorem far1 : ∀ k, FL 1301 k → ¬ TL 1 k := fun k hk h => by have := hk.1; rcases h with h | h; have := h.2; omega; have := hk.2; omega
theorem far2 : ∀ k, FL 1 k → ¬ TL 1301 k := fun k hk h => by have := hk.2; rcases h with h | h; have := h.1; omega; omega
theorem nT1 : ¬ TL 1 5001 := fun h => by rcases h with h | h; have := h.2; omega; omega
theorem nT2 : ¬ TL 1301 5001 := fun h => by rcases h with h | h; have := h.2; omega; omega

/-- A pair is the same as itself. -/
theorem pair_eq_d (d : Nat) (a b : Int) (w : World) : (Op.equalIn (d + 1 + 1) 69 (.agg #[.int .i64 a, .int .i64 b]) (.agg #[.int .i64 a, .int .i64 b])).run Try.prog w = .ok true w := by
  obtain ⟨ii, hii, hzi0, hzi1, hzi2⟩ := info_parts infoInt
  have h1 := fun w => run_underlying (w := w) Try.underlying69
  have h3 : ∀ (x : Int) (w : World), (Op.equalIn (d + 1) 3 (.int .i64 x) (.int .i64 x)).run Try.prog w = .ok true w := fun x w => by
    rw [run_equalIn_int w d 3 .i64 .i64 x x Try.underlying3]; simp
  rw [Op.equalIn]
  simp only [Sem.run_bind, h1, Result.andThen_ok]
  have h4 : ∀ (w : World), (isAgg 3).run Try.prog w = .ok false w := fun w => by simp [isAgg, run_underlying (w := w) Try.underlying3]
  simp [sizeOf, typeInfo, hii, hzi1, part]
  rw [show List.range' 0 2 = [0, 1] from rfl]
  simp [h4, h3]

/-- The state of the last loop. -/
def LastS (w : World) (pa pb : Nat) (s : Sta) (wr : World) : Prop := ∃ o', FoS wr o' 1 pa 60 s ∧ FoS wr o' 1301 pb 60 s ∧ Step Pos w o0 wr o'
theorem farA : ∀ k, FL 1301 k → ¬ FL 1 k := fun k hk h => by have := hk.1; have := h.2; omega
theorem farB : ∀ k, FL 1 k → ¬ FL 1301 k := fun k hk h => by have := hk.2; have := h.1; omega

set_option maxRecDepth 100000 in
set_option maxHeartbeats 8000000 in
theorem asked_walk (w : World) (a0 a1 : Option Addr) (len0 cap0 len1 cap1 : Nat) (f g : Nat → OpR) (ha : ArgOps w o0 a0 len0 f) (hb : ArgOps w o0 a1 len1 g) (h1 : len0 ≤ 9223372036854775807) (h2 : len1 ≤ 9223372036854775807) :
    Calls Try.prog 8 #[.slice a0 len0 cap0, .slice a1 len1 cap1] w fun e w' => e = .returned (.bool true) ∧ Below w.heap.size w w' := by
  have npos : ¬ Pos 0 := by unfold Pos; omega
  have nF1 : ∀ k, 2401 ≤ k → ¬ FL 1 k := fun k hk h => by have := h.2; omega
  have nF2 : ∀ k, 2401 ≤ k → ¬ FL 1301 k := fun k hk h => by have := h.2; omega
  go_enter Try.func8, Try.ntmps8
  go_wp2_with fail
  refine (awake_any w).mono ?_
  rintro e w1 ⟨rfl, hb1⟩
  have t1 : Step Pos w o0 w1 o0 := Step.ofBelow o0 hb1
  go_wp2_with fail
  refine (newF w1 o0 1 60 (fun _ => ⟨0, false, 0⟩) (fun _ => []) (by omega)).mono ?_
  rintro e w2 ⟨pa, rfl, o2, F2, S2⟩
  go_wp2_with fail
  refine (newF w2 o2 1301 60 (fun _ => ⟨0, false, 0⟩) (fun _ => []) (by omega)).mono ?_
  rintro e w3 ⟨pb, rfl, o3, F3, S3⟩
  have START : AskS w pa pb w3 := ⟨o3, ⟨0, [], _, _⟩, F2.quiet S3, F3, (t1.trans S2.pos0).trans S3.pos0⟩
  clear t1 F2 S2 F3 S3 hb1
  go_wp2
  go_loopw [10] (fun u wr => ∃ k : Nat, u = .int .i64 (k : Nat) ∧ k ≤ len0 ∧ k ≤ 200 ∧ AskS w pa pb wr) (fun u _ => 200 - (intOf u).toNat)
  case atStart => exact ⟨0, by go_num, by omega, by omega, START⟩
  case round =>
    clear START
    obtain ⟨k, rfl, hk, hk200, o4, s, FA, FB, t4⟩ := hrel
    by_cases hlt : k < len0 ∧ k < 200
    · obtain ⟨hlt1, hlt2⟩ := hlt
      obtain ⟨r1, r2, t, hT⟩ := toldSpec FA (f k)
      have HT : Hid (Told 60 s (f k) true r1 r2 t) := hT
      have HPE : Hid (∀ wx, (Op.equalIn 10000 69 (.agg #[.int .i64 r1, .int .i64 r2]) (.agg #[.int .i64 r1, .int .i64 r2])).run Try.prog wx = .ok true wx) := fun wx => pair_eq_d 9998 r1 r2 wx
      have H4 := ha.step t4 npos k hlt1
      obtain ⟨bo, off, rfl, hbo, hob, m0, m1, m2, m3, m4, m5, m6⟩ := H4
      have HOP : Hid (∀ wx ox, Step Pos w o0 wx ox → (wx.cell? ⟨bo, off + k * 7, none⟩ = some (.int .i64 (f k).kd) ∧ wx.cell? ⟨bo, off + k * 7 + 1, none⟩ = some (.int .i64 (f k).a) ∧ wx.cell? ⟨bo, off + k * 7 + 2, none⟩ = some (.int .i64 (f k).b) ∧ wx.cell? ⟨bo, off + k * 7 + 3, none⟩ = some (.int .i64 (f k).v) ∧ wx.cell? ⟨bo, off + k * 7 + 4, none⟩ = some (.bool (f k).c) ∧ wx.cell? ⟨bo, off + k * 7 + 5, none⟩ = some (.int .i64 (f k).f) ∧ wx.cell? ⟨bo, off + k * 7 + 6, none⟩ = some (.bool (f k).ot))) := fun wx ox st => by
        obtain ⟨b', off', hv, _, _, n⟩ := ha.step st npos k hlt1
        simp only [Option.some.injEq, Addr.mk.injEq, and_true] at hv
        obtain ⟨rfl, rfl⟩ := hv
        exact n
      have hc := HT.out wr o4 1 pa (by omega) FA
      simp only [opV, pv] at hc
      obtain ⟨q, hq⟩ : ∃ q, q = f k := ⟨_, rfl⟩
      rw [← hq] at hc m0 m1 m2 m3 m4 m5 m6 HOP HT
      have HB : Hid (ArgOps w o0 a1 len1 g) := hb
      clear hq hT ha hb FA
      go_wp2_with fail
      refine hc.mono ?_
      rintro e w5 ⟨rfl, o5, FA5, S5⟩
      have n6 := newStep (fun _ => False) w5 o5 5001 (.cells #[.int .i64 r1, .int .i64 r2] 69)
      have B6 : Blk (w5.alloc (.cells #[.int .i64 r1, .int .i64 r2] 69)) (newLab w5 o5 5001) 5001 w5.heap.size (.cells #[.int .i64 r1, .int .i64 r2] 69 (0, 0)) := ⟨heap_alloc_new w5 _, newLab_new (Nat.le_refl _)⟩
      have IST : AskI w pa pb w5.heap.size r1 r2 s t (w5.alloc (.cells #[.int .i64 r1, .int .i64 r2] 69)) := ⟨_, FA5.quiet n6, (FB.step S5 far1).quiet n6, B6, (t4.trans (S5.mono fun k hk => TLpos (by omega) hk)).trans n6.pos0⟩
      obtain ⟨bq, hbq⟩ : ∃ b, b = w5.heap.size := ⟨_, rfl⟩
      rw [← hbq] at IST
      clear hc FA5 S5 n6 B6 FB t4 m0 m1 m2 m3 m4 m5 m6
      go_wp2
      rw [← hbq]
      clear hbq
      go_loopw [12] (fun u wr => ∃ j : Nat, u = .int .i64 (j : Nat) ∧ j ≤ 3 ∧ AskI w pa pb bq r1 r2 s t wr) (fun u _ => 3 - (intOf u).toNat)
      case atStart => exact ⟨0, by go_num, by omega, IST⟩
      case round =>
        clear IST
        obtain ⟨j, rfl, hj, o7, FA7, FB7, B7, t7⟩ := hrel
        by_cases hin : j < 3 ∧ 0 < len1
        · obtain ⟨hj3, hl1⟩ := hin
          have hmod : (3 * k + j) % len1 < len1 := Nat.mod_lt _ hl1
          obtain ⟨x1, x2, hQ⟩ := toldQuiet FB7 (g ((3 * k + j) % len1))
          obtain ⟨bp, offp, rfl, hbp, hop, m0, m1, m2, m3, m4, m5, m6⟩ := HB.out.step t7 npos _ hmod
          have hc := hQ wr o7 1301 pb (by omega) FB7
          simp only [opV, pv] at hc
          obtain ⟨qq, hqq⟩ : ∃ q, q = g ((3 * k + j) % len1) := ⟨_, rfl⟩
          obtain ⟨md, hmd⟩ : ∃ md, md = (3 * k + j) % len1 := ⟨_, rfl⟩
          rw [← hqq] at hc m0 m1 m2 m3 m4 m5 m6
          rw [← hmd] at m0 m1 m2 m3 m4 m5 m6 hmod
          have hz : ((len1 : Int) == 0) = false := by simp only [beq_eq_false_iff_ne, ne_eq]; omega
          have hm1' : ((len1 : Int) == -1) = false := by simp only [beq_eq_false_iff_ne, ne_eq]; omega
          have ew : IntKind.i64.wrap (3 * (k : Int)) = 3 * k := by rw [IntKind.wrap_i64]; omega
          have ew2 : IntKind.i64.wrap (3 * (k : Int) + j) = 3 * k + j := by rw [IntKind.wrap_i64]; omega
          have et : (3 * (k : Int) + j).tmod (len1 : Int) = (md : Int) := by
            rw [Int.tmod_eq_emod_of_nonneg (by omega), hmd, Int.natCast_emod]; congr 1
          have hmdi : (md : Int) < (len1 : Int) := by omega
          clear hqq hmd hQ
          go_wp2_with fail
          refine hc.mono ?_
          rintro e w8 ⟨rfl, o8, FB8, S8⟩
          have G : AskI w pa pb bq r1 r2 s t w8 := ⟨o8, FA7.step S8 far2, FB8, B7.step S8 nT2, t7.trans (S8.mono fun k hk => TLpos (by omega) hk)⟩
          clear hc FA7 FB7 B7 t7 FB8 S8 m0 m1 m2 m3 m4 m5 m6
          go_wp2
          go_roundw
          case rel => (try ((repeat apply Exists.intro); refine ⟨?_, rfl⟩)); exact ⟨j + 1, by go_num, by omega, G⟩
          case measure => simp [intOf]; omega
        · have hc := HT.out wr o7 1301 pb (by omega) FB7
          simp only [opV, pv] at hc
          obtain ⟨m0, m1, m2, m3, m4, m5, m6⟩ := HOP.out _ _ t7
          have hcs : (j = 3) ∨ (len1 = 0 ∧ j < 3) := by omega
          have FIN : Hid (∀ w8 o8, FoS w8 o8 1301 pb 60 t → Step (TL 1301) wr o7 w8 o8 → AskS w pa pb (w8.alloc (.cells #[.int .i64 r1, .int .i64 r2] 69)) ∧ Blk (w8.alloc (.cells #[.int .i64 r1, .int .i64 r2] 69)) o8 5001 bq (.cells #[.int .i64 r1, .int .i64 r2] 69 (0, 0))) := fun w8 o8 F8 S8 => by
            have n9 := newB w8 o8 (.cells #[.int .i64 r1, .int .i64 r2] 69)
            exact ⟨⟨o8, t, (FA7.step S8 far2).quiet n9, F8.quiet n9, (t7.trans (S8.mono fun k hk => TLpos (by omega) hk)).trans n9.pos0⟩, (B7.step S8 nT2).step n9 id⟩
          clear FA7 FB7 B7 t7
          rcases hcs with rfl | ⟨rfl, hj3⟩
          · go_wp2_with fail
            refine hc.mono ?_
            rintro e w8 ⟨rfl, o8, F8, S8⟩
            obtain ⟨G, B9⟩ := FIN.out _ _ F8 S8
            obtain ⟨d0, d1, df⟩ := B9.cells2
            have hpe := HPE.out
            clear hc F8 S8 FIN B9 m0 m1 m2 m3 m4 m5 m6
            go_wp2
            go_roundw
            case rel => (try ((repeat apply Exists.intro); refine ⟨?_, rfl⟩)); exact ⟨k + 1, by go_num, by omega, by omega, G⟩
            case measure => simp [intOf]; omega
          · go_wp2_with fail
            refine hc.mono ?_
            rintro e w8 ⟨rfl, o8, F8, S8⟩
            obtain ⟨G, B9⟩ := FIN.out _ _ F8 S8
            obtain ⟨d0, d1, df⟩ := B9.cells2
            have hpe := HPE.out
            clear hc F8 S8 FIN B9 m0 m1 m2 m3 m4 m5 m6
            go_wp2
            go_roundw
            case rel => (try ((repeat apply Exists.intro); refine ⟨?_, rfl⟩)); exact ⟨k + 1, by go_num, by omega, by omega, G⟩
            case measure => simp [intOf]; omega
    · have hcs : (k = 200 ∧ k < len0) ∨ ¬ k < len0 := by omega
      have START : LastS w pa pb s wr := ⟨o4, FA, FB, t4⟩
      clear FA FB t4 ha hb
      rcases hcs with hcs | hcs
      · obtain ⟨rfl, hk2⟩ := hcs
        have hnl : (200 : Int) < (len0 : Int) := by omega
        go_wp2
        go_loopw [14] (fun u wr => ∃ h : Nat, u = .int .i64 (h : Nat) ∧ h ≤ 62 ∧ LastS w pa pb s wr) (fun u _ => 62 - (intOf u).toNat)
        case atStart => exact ⟨0, by go_num, by omega, START⟩
        case round =>
          clear START
          obtain ⟨h, rfl, hh, o5, FA, FB, t5⟩ := hrel
          by_cases hlt62 : h < 62
          · obtain ⟨x, rx, hGet⟩ := getSpec FA (h : Nat)
            obtain ⟨G, rs, hSum⟩ := sumSpec FA (h : Nat)
            obtain ⟨xs, ra, hxl, hAll⟩ := allSpec FA (h : Nat)
            unfold Acts at hGet hSum
            simp only [pv] at hGet hSum
            unfold itemV at hGet
            unfold aggV at hSum
            have HGET : Hid _ := hGet
            have HSUM : Hid _ := hSum
            have HALL : Hid _ := hAll
            have hc := HGET.out wr o5 1 pa FA
            clear hGet hSum hAll
            go_wp2_with fail
            refine hc.mono ?_
            rintro e w6 ⟨rfl, o6, FA6, S6⟩
            have n7 := newStep (fun _ => False) w6 o6 5003 (.cells #[.int .i64 x.v, .bool x.c, .int .i64 x.f] 36)
            have X7 : Blk (w6.alloc (.cells #[.int .i64 x.v, .bool x.c, .int .i64 x.f] 36)) (newLab w6 o6 5003) 5003 w6.heap.size (.cells #[.int .i64 x.v, .bool x.c, .int .i64 x.f] 36 (0, 0)) := ⟨heap_alloc_new w6 _, newLab_new (Nat.le_refl _)⟩
            have FA7 := FA6.quiet n7
            have FB7 := (FB.step S6 farA).quiet n7
            have t7 := (t5.trans (S6.posF (by omega))).trans n7.pos0
            have hc2 := HGET.out _ _ 1301 pb FB7
            clear hc FA6 S6 n7 FA FB t5
            go_wp2_with fail
            refine hc2.mono ?_
            rintro e w8 ⟨rfl, o8, FB8, S8⟩
            have n9 := newStep (fun _ => False) w8 o8 5004 (.cells #[.int .i64 x.v, .bool x.c, .int .i64 x.f] 36)
            have Y9 : Blk (w8.alloc (.cells #[.int .i64 x.v, .bool x.c, .int .i64 x.f] 36)) (newLab w8 o8 5004) 5004 w8.heap.size (.cells #[.int .i64 x.v, .bool x.c, .int .i64 x.f] 36 (0, 0)) := ⟨heap_alloc_new w8 _, newLab_new (Nat.le_refl _)⟩
            have X9 := (X7.step S8 (nF2 _ (by omega))).step n9 id
            have FA9 := (FA7.step S8 farB).quiet n9
            have FB9 := FB8.quiet n9
            have t9 := (t7.trans (S8.posF (by omega))).trans n9.pos0
            have hc3 := HSUM.out _ _ 1 pa FA9
            clear hc2 FB8 S8 n9 FA7 FB7 t7 X7 HGET
            go_wp2_with fail
            refine hc3.mono ?_
            rintro e w10 ⟨rfl, o10, FA10, S10⟩
            have n11 := newStep (fun _ => False) w10 o10 5005 (.cells #[.int .i64 G.count, .int .i64 G.sum, .int .i64 G.least, .int .i64 G.most, .int .i64 G.flags] 64)
            have G11 : Blk (w10.alloc (.cells #[.int .i64 G.count, .int .i64 G.sum, .int .i64 G.least, .int .i64 G.most, .int .i64 G.flags] 64)) (newLab w10 o10 5005) 5005 w10.heap.size (.cells #[.int .i64 G.count, .int .i64 G.sum, .int .i64 G.least, .int .i64 G.most, .int .i64 G.flags] 64 (0, 0)) := ⟨heap_alloc_new w10 _, newLab_new (Nat.le_refl _)⟩
            have X11 := (X9.step S10 (nF1 _ (by omega))).step n11 id
            have Y11 := (Y9.step S10 (nF1 _ (by omega))).step n11 id
            have FA11 := FA10.quiet n11
            have FB11 := (FB9.step S10 farA).quiet n11
            have t11 := (t9.trans (S10.posF (by omega))).trans n11.pos0
            have hc4 := HSUM.out _ _ 1301 pb FB11
            clear hc3 FA10 S10 n11 FA9 FB9 t9 X9 Y9 HSUM
            go_wp2_with fail
            refine hc4.mono ?_
            rintro e w12 ⟨rfl, o12, FB12, S12⟩
            have n13 := newStep (fun _ => False) w12 o12 5006 (.cells #[.int .i64 G.count, .int .i64 G.sum, .int .i64 G.least, .int .i64 G.most, .int .i64 G.flags] 64)
            have H13 : Blk (w12.alloc (.cells #[.int .i64 G.count, .int .i64 G.sum, .int .i64 G.least, .int .i64 G.most, .int .i64 G.flags] 64)) (newLab w12 o12 5006) 5006 w12.heap.size (.cells #[.int .i64 G.count, .int .i64 G.sum, .int .i64 G.least, .int .i64 G.most, .int .i64 G.flags] 64 (0, 0)) := ⟨heap_alloc_new w12 _, newLab_new (Nat.le_refl _)⟩
            have X13 := (X11.step S12 (nF2 _ (by omega))).step n13 id
            have Y13 := (Y11.step S12 (nF2 _ (by omega))).step n13 id
            have G13 := (G11.step S12 (nF2 _ (by omega))).step n13 id
            have FA13 := (FA11.step S12 farB).quiet n13
            have FB13 := FB12.quiet n13
            have t13 := (t11.trans (S12.posF (by omega))).trans n13.pos0
            have hc5 := HALL.out _ _ 1 pa 5007 (nF1 _ (by omega)) FA13
            clear hc4 FB12 S12 n13 FA11 FB11 t11 X11 Y11 G11
            go_wp2_with fail
            refine hc5.mono ?_
            rintro e w14 ⟨va, o14, rfl, V14, FA14, S14⟩
            have nb1 : ∀ i, 5003 ≤ i → i ≠ 5007 → ¬ (FL 1 i ∨ i = 5007) := fun i h1 h2 h => h.elim (nF1 _ (by omega)) h2
            have X14 := X13.step S14 (nb1 _ (by omega) (by omega))
            have Y14 := Y13.step S14 (nb1 _ (by omega) (by omega))
            have G14 := G13.step S14 (nb1 _ (by omega) (by omega))
            have H14 := H13.step S14 (nb1 _ (by omega) (by omega))
            have FB14 := FB13.step S14 (fun k hk h => h.elim (farA k hk) (fun e => by have := hk.2; omega))
            have t14 := t13.trans (S14.mono (J := Pos) fun k hk => by unfold Pos; rcases hk with hk | hk; have := hk.1; omega; omega)
            have hc6 := HALL.out _ _ 1301 pb 5008 (nF2 _ (by omega)) FB14
            clear hc5 S14 FA13 FB13 t13 X13 Y13 G13 H13 HALL
            go_wp2_with fail
            refine hc6.mono ?_
            rintro e w15 ⟨vb, o15, rfl, V15, FB15, S15⟩
            have nb2 : ∀ i, 5003 ≤ i → i ≠ 5008 → ¬ (FL 1301 i ∨ i = 5008) := fun i h1 h2 h => h.elim (nF2 _ (by omega)) h2
            have X15 := X14.step S15 (nb2 _ (by omega) (by omega))
            have Y15 := Y14.step S15 (nb2 _ (by omega) (by omega))
            have G15 := G14.step S15 (nb2 _ (by omega) (by omega))
            have H15 := H14.step S15 (nb2 _ (by omega) (by omega))
            have W15 := V14.step S15 (nb2 _ (by omega) (by omega))
            have FA15 := FA14.step S15 (fun k hk h => h.elim (farB k hk) (fun e => by have := hk.2; omega))
            have t15 := t14.trans (S15.mono (J := Pos) fun k hk => by unfold Pos; rcases hk with hk | hk; have := hk.1; omega; omega)
            have hsm := same_true w15 o15 o15 5007 5008 va vb xs W15 V15 (by omega)
            clear hc6 S15 FA14 FB14 t14 X14 Y14 G14 H14 V14 V15 W15
            go_wp2_with fail
            refine hsm.mono ?_
            rintro e w16 ⟨rfl, m16, rfl⟩
            have q16 := (Step.refl (fun _ => False) w15 o15).drewN m16
            obtain ⟨a0', a1', a2', af⟩ := (X15.step q16 id).cells3
            obtain ⟨b0', b1', b2', bf⟩ := (Y15.step q16 id).cells3
            obtain ⟨c0', c1', c2', c3', c4', cf⟩ := (G15.step q16 id).cells5
            obtain ⟨d0', d1', d2', d3', d4', df⟩ := (H15.step q16 id).cells5
            have GG : LastS w pa pb s (w15.drewN m16) := ⟨o15, FA15.quiet q16, FB15.quiet q16, t15.trans q16.pos0⟩
            clear hsm X15 Y15 G15 H15 FA15 FB15 t15 q16
            go_wp2
            go_roundw
            case rel => (try ((repeat apply Exists.intro); refine ⟨?_, rfl⟩)); exact ⟨h + 1, by go_num, by omega, GG⟩
            case measure => simp [intOf]; omega
          · have t6 := t5.old
            clear FA FB t5
            go_wp2
            go_ret
            exact ⟨rfl, t6⟩
      · have hnl : ¬ (k : Int) < (len0 : Int) := by omega
        go_wp2
        go_loopw [14] (fun u wr => ∃ h : Nat, u = .int .i64 (h : Nat) ∧ h ≤ 62 ∧ LastS w pa pb s wr) (fun u _ => 62 - (intOf u).toNat)
        case atStart => exact ⟨0, by go_num, by omega, START⟩
        case round =>
          clear START
          obtain ⟨h, rfl, hh, o5, FA, FB, t5⟩ := hrel
          by_cases hlt62 : h < 62
          · obtain ⟨x, rx, hGet⟩ := getSpec FA (h : Nat)
            obtain ⟨G, rs, hSum⟩ := sumSpec FA (h : Nat)
            obtain ⟨xs, ra, hxl, hAll⟩ := allSpec FA (h : Nat)
            unfold Acts at hGet hSum
            simp only [pv] at hGet hSum
            unfold itemV at hGet
            unfold aggV at hSum
            have HGET : Hid _ := hGet
            have HSUM : Hid _ := hSum
            have HALL : Hid _ := hAll
            have hc := HGET.out wr o5 1 pa FA
            clear hGet hSum hAll
            go_wp2_with fail
            refine hc.mono ?_
            rintro e w6 ⟨rfl, o6, FA6, S6⟩
            have n7 := newStep (fun _ => False) w6 o6 5003 (.cells #[.int .i64 x.v, .bool x.c, .int .i64 x.f] 36)
            have X7 : Blk (w6.alloc (.cells #[.int .i64 x.v, .bool x.c, .int .i64 x.f] 36)) (newLab w6 o6 5003) 5003 w6.heap.size (.cells #[.int .i64 x.v, .bool x.c, .int .i64 x.f] 36 (0, 0)) := ⟨heap_alloc_new w6 _, newLab_new (Nat.le_refl _)⟩
            have FA7 := FA6.quiet n7
            have FB7 := (FB.step S6 farA).quiet n7
            have t7 := (t5.trans (S6.posF (by omega))).trans n7.pos0
            have hc2 := HGET.out _ _ 1301 pb FB7
            clear hc FA6 S6 n7 FA FB t5
            go_wp2_with fail
            refine hc2.mono ?_
            rintro e w8 ⟨rfl, o8, FB8, S8⟩
            have n9 := newStep (fun _ => False) w8 o8 5004 (.cells #[.int .i64 x.v, .bool x.c, .int .i64 x.f] 36)
            have Y9 : Blk (w8.alloc (.cells #[.int .i64 x.v, .bool x.c, .int .i64 x.f] 36)) (newLab w8 o8 5004) 5004 w8.heap.size (.cells #[.int .i64 x.v, .bool x.c, .int .i64 x.f] 36 (0, 0)) := ⟨heap_alloc_new w8 _, newLab_new (Nat.le_refl _)⟩
            have X9 := (X7.step S8 (nF2 _ (by omega))).step n9 id
            have FA9 := (FA7.step S8 farB).quiet n9
            have FB9 := FB8.quiet n9
            have t9 := (t7.trans (S8.posF (by omega))).trans n9.pos0
            have hc3 := HSUM.out _ _ 1 pa FA9
            clear hc2 FB8 S8 n9 FA7 FB7 t7 X7 HGET
            go_wp2_with fail
            refine hc3.mono ?_
            rintro e w10 ⟨rfl, o10, FA10, S10⟩
            have n11 := newStep (fun _ => False) w10 o10 5005 (.cells #[.int .i64 G.count, .int .i64 G.sum, .int .i64 G.least, .int .i64 G.most, .int .i64 G.flags] 64)
            have G11 : Blk (w10.alloc (.cells #[.int .i64 G.count, .int .i64 G.sum, .int .i64 G.least, .int .i64 G.most, .int .i64 G.flags] 64)) (newLab w10 o10 5005) 5005 w10.heap.size (.cells #[.int .i64 G.count, .int .i64 G.sum, .int .i64 G.least, .int .i64 G.most, .int .i64 G.flags] 64 (0, 0)) := ⟨heap_alloc_new w10 _, newLab_new (Nat.le_refl _)⟩
            have X11 := (X9.step S10 (nF1 _ (by omega))).step n11 id
            have Y11 := (Y9.step S10 (nF1 _ (by omega))).step n11 id
            have FA11 := FA10.quiet n11
            have FB11 := (FB9.step S10 farA).quiet n11
            have t11 := (t9.trans (S10.posF (by omega))).trans n11.pos0
            have hc4 := HSUM.out _ _ 1301 pb FB11
            clear hc3 FA10 S10 n11 FA9 FB9 t9 X9 Y9 HSUM
            go_wp2_with fail
            refine hc4.mono ?_
            rintro e w12 ⟨rfl, o12, FB12, S12⟩
            have n13 := newStep (fun _ => False) w12 o12 5006 (.cells #[.int .i64 G.count, .int .i64 G.sum, .int .i64 G.least, .int .i64 G.most, .int .i64 G.flags] 64)
            have H13 : Blk (w12.alloc (.cells #[.int .i64 G.count, .int .i64 G.sum, .int .i64 G.least, .int .i64 G.most, .int .i64 G.flags] 64)) (newLab w12 o12 5006) 5006 w12.heap.size (.cells #[.int .i64 G.count, .int .i64 G.sum, .int .i64 G.least, .int .i64 G.most, .int .i64 G.flags] 64 (0, 0)) := ⟨heap_alloc_new w12 _, newLab_new (Nat.le_refl _)⟩
            have X13 := (X11.step S12 (nF2 _ (by omega))).step n13 id
            have Y13 := (Y11.step S12 (nF2 _ (by omega))).step n13 id
            have G13 := (G11.step S12 (nF2 _ (by omega))).step n13 id
            have FA13 := (FA11.step S12 farB).quiet n13
            have FB13 := FB12.quiet n13
            have t13 := (t11.trans (S12.posF (by omega))).trans n13.pos0
            have hc5 := HALL.out _ _ 1 pa 5007 (nF1 _ (by omega)) FA13
            clear hc4 FB12 S12 n13 FA11 FB11 t11 X11 Y11 G11
            go_wp2_with fail
            refine hc5.mono ?_
            rintro e w14 ⟨va, o14, rfl, V14, FA14, S14⟩
            have nb1 : ∀ i, 5003 ≤ i → i ≠ 5007 → ¬ (FL 1 i ∨ i = 5007) := fun i h1 h2 h => h.elim (nF1 _ (by omega)) h2
            have X14 := X13.step S14 (nb1 _ (by omega) (by omega))
            have Y14 := Y13.step S14 (nb1 _ (by omega) (by omega))
            have G14 := G13.step S14 (nb1 _ (by omega) (by omega))
            have H14 := H13.step S14 (nb1 _ (by omega) (by omega))
            have FB14 := FB13.step S14 (fun k hk h => h.elim (farA k hk) (fun e => by have := hk.2; omega))
            have t14 := t13.trans (S14.mono (J := Pos) fun k hk => by unfold Pos; rcases hk with hk | hk; have := hk.1; omega; omega)
            have hc6 := HALL.out _ _ 1301 pb 5008 (nF2 _ (by omega)) FB14
            clear hc5 S14 FA13 FB13 t13 X13 Y13 G13 H13 HALL
            go_wp2_with fail
            refine hc6.mono ?_
            rintro e w15 ⟨vb, o15, rfl, V15, FB15, S15⟩
            have nb2 : ∀ i, 5003 ≤ i → i ≠ 5008 → ¬ (FL 1301 i ∨ i = 5008) := fun i h1 h2 h => h.elim (nF2 _ (by omega)) h2
            have X15 := X14.step S15 (nb2 _ (by omega) (by omega))
            have Y15 := Y14.step S15 (nb2 _ (by omega) (by omega))
            have G15 := G14.step S15 (nb2 _ (by omega) (by omega))
            have H15 := H14.step S15 (nb2 _ (by omega) (by omega))
            have W15 := V14.step S15 (nb2 _ (by omega) (by omega))
            have FA15 := FA14.step S15 (fun k hk h => h.elim (farB k hk) (fun e => by have := hk.2; omega))
            have t15 := t14.trans (S15.mono (J := Pos) fun k hk => by unfold Pos; rcases hk with hk | hk; have := hk.1; omega; omega)
            have hsm := same_true w15 o15 o15 5007 5008 va vb xs W15 V15 (by omega)
            clear hc6 S15 FA14 FB14 t14 X14 Y14 G14 H14 V14 V15 W15
            go_wp2_with fail
            refine hsm.mono ?_
            rintro e w16 ⟨rfl, m16, rfl⟩
            have q16 := (Step.refl (fun _ => False) w15 o15).drewN m16
            obtain ⟨a0', a1', a2', af⟩ := (X15.step q16 id).cells3
            obtain ⟨b0', b1', b2', bf⟩ := (Y15.step q16 id).cells3
            obtain ⟨c0', c1', c2', c3', c4', cf⟩ := (G15.step q16 id).cells5
            obtain ⟨d0', d1', d2', d3', d4', df⟩ := (H15.step q16 id).cells5
            have GG : LastS w pa pb s (w15.drewN m16) := ⟨o15, FA15.quiet q16, FB15.quiet q16, t15.trans q16.pos0⟩
            clear hsm X15 Y15 G15 H15 FA15 FB15 t15 q16
            go_wp2
            go_roundw
            case rel => (try ((repeat apply Exists.intro); refine ⟨?_, rfl⟩)); exact ⟨h + 1, by go_num, by omega, GG⟩
            case measure => simp [intOf]; omega
          · have t6 := t5.old
            clear FA FB t5
            go_wp2
            go_ret
            exact ⟨rfl, t6⟩

end Go.Proofs.Ythnocaiehhcdeaa
