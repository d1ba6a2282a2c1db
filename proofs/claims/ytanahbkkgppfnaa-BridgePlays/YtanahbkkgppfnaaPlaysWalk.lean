/- The law BridgePlays: the walk. -/
import Derived.Test.YtanahbkkgppfnaaPlaysM
import Derived.Test.YtanahbkkgppfnaaTold8W
import Derived.Test.YtanahbkkgppfnaaKept8
import Derived.Test.YtanahbkkgppfnaaRowE8
namespace Go.Proofs.Ytanahbkkgppfnaa
open Go.ChangeShapes Go.WideShapes Go.ChangeAt Go.RowKit
set_option linter.unusedVariables false
set_option linter.unusedSimpArgs false

set_option maxRecDepth 100000 in
set_option maxHeartbeats 8000000 in
theorem plays_in (w : World) (c0 c1 : Int) (v2 v3 : Value) (es fs : List EdT) (h2 : VwE w o0 0 v2 es) (h3 : VwE w o0 0 v3 fs) (hc0 : i64 c0) (hc1 : i64 c1) :
    Calls Try.prog 3 #[.int .i64 c0, .int .i64 c1, v2, v3] w fun e w' => e = .returned (.bool true) ∧ Below w.heap.size w w' := by
  have hw1 := awake_w w o0 1000 (by omega)
  have n0 : ¬ Pos 0 := fun h => by simp [Pos] at h
  have H2 : Hid (VwE w o0 0 v2 es) := h2
  have H3 : Hid (VwE w o0 0 v3 fs) := h3
  obtain ⟨a2, cap2, rfl⟩ := h2.form
  obtain ⟨a3, cap3, rfl⟩ := h3.form
  obtain ⟨c01, c02⟩ := hc0
  obtain ⟨c11, c12⟩ := hc1
  clear h2 h3
  go_enter Try.func3, Try.ntmps3
  go_wp2_with fail
  refine hw1.mono ?_
  rintro e w1 ⟨rfl, o1, s1⟩
  have S1 : Step Pos w o0 w1 o1 := s1.mono fun k hk => (show 0 < k by omega)
  clear hw1 s1
  by_cases hl2 : es.length ≤ 2000
  · by_cases hl3 : fs.length ≤ 2000
    · have i2 : ¬ ((2000 : Int) < (es.length : Int)) := by omega
      have i3 : ¬ ((2000 : Int) < (fs.length : Int)) := by omega
      obtain ⟨cx, hcx⟩ := vd_ex c0 es
      obtain ⟨cy, hcy⟩ := vd_ex c1 fs
      have HX : Hid (Vd c0 es cx) := hcx
      have HY : Hid (Vd c1 fs cy) := hcy
      have k1 := refOf_all w1 o1 10000 0 c0 cx _ es (H2.out.step S1 n0) c01 c02 hl2 (by omega) hcx
      clear hcx hcy
      go_wp2_with fail
      refine k1.mono ?_
      rintro e w2 ⟨px, o2, rfl, X2, s2⟩
      have S2 : Step Pos w o0 w2 o2 := S1.trans (s2.mono fun k hk => (show 0 < k by have := hk.1; omega))
      have k2 := refOf_all w2 o2 20000 0 c1 cy _ fs (H3.out.step S2 n0) c11 c12 hl3 (by omega) HY.out
      clear k1 s2 S1
      go_wp2_with fail
      refine k2.mono ?_
      rintro e w3 ⟨py, o3, rfl, Y3, s3⟩
      have S3 : Step Pos w o0 w3 o3 := S2.trans (s3.mono fun k hk => (show 0 < k by have := hk.1; omega))
      have X3 : (cx ≠ 0 ∧ px = .pointer none) ∨ (cx = 0 ∧ ∃ q B bl, px = .pointer (some ⟨q, 0, none⟩) ∧ Rf8 w3 o3 10000 q c0.toNat B bl ∧ Ans c0.toNat es B bl) := by
        rcases X2 with h | ⟨h, q, B, bl, hp, hr, ha⟩
        · exact .inl h
        · exact .inr ⟨h, q, B, bl, hp, hr.step s3 (fun k hk x => by have := hk.2; have := x.1; omega), ha⟩
      have k3 := lent_w w3 o3 0 30000 _ es (H2.out.step S3 n0) hl2
      clear k2 s3 S2 X2
      go_wp2_with fail
      refine k3.mono ?_
      rintro e w4 ⟨ga, ca, o4, rfl, RA4, s4⟩
      have S4 : Step Pos w o0 w4 o4 := S3.trans (s4.mono fun k hk => (show 0 < k by omega))
      have X4 : (cx ≠ 0 ∧ px = .pointer none) ∨ (cx = 0 ∧ ∃ q B bl, px = .pointer (some ⟨q, 0, none⟩) ∧ Rf8 w4 o4 10000 q c0.toNat B bl ∧ Ans c0.toNat es B bl) := by
        rcases X3 with h | ⟨h, q, B, bl, hp, hr, ha⟩
        · exact .inl h
        · exact .inr ⟨h, q, B, bl, hp, hr.step s4 (fun k hk x => by have := hk.2; omega), ha⟩
      have Y4 : (cy ≠ 0 ∧ py = .pointer none) ∨ (cy = 0 ∧ ∃ q B bl, py = .pointer (some ⟨q, 0, none⟩) ∧ Rf8 w4 o4 20000 q c1.toNat B bl ∧ Ans c1.toNat fs B bl) := by
        rcases Y3 with h | ⟨h, q, B, bl, hp, hr, ha⟩
        · exact .inl h
        · exact .inr ⟨h, q, B, bl, hp, hr.step s4 (fun k hk x => by have := hk.2; omega), ha⟩
      have k4 := lent_w w4 o4 0 40000 _ fs (H3.out.step S4 n0) hl3
      clear k3 s4 S3 X3 Y3
      go_wp2_with fail
      refine k4.mono ?_
      rintro e w5 ⟨gb, cb, o5, rfl, RB5, s5⟩
      have S5 : Step Pos w o0 w5 o5 := S4.trans (s5.mono fun k hk => (show 0 < k by omega))
      have RA5 := RA4.step s5 (by omega)
      have X5 : (cx ≠ 0 ∧ px = .pointer none) ∨ (cx = 0 ∧ ∃ q B bl, px = .pointer (some ⟨q, 0, none⟩) ∧ Rf8 w5 o5 10000 q c0.toNat B bl ∧ Ans c0.toNat es B bl) := by
        rcases X4 with h | ⟨h, q, B, bl, hp, hr, ha⟩
        · exact .inl h
        · exact .inr ⟨h, q, B, bl, hp, hr.step s5 (fun k hk x => by have := hk.2; omega), ha⟩
      have Y5 : (cy ≠ 0 ∧ py = .pointer none) ∨ (cy = 0 ∧ ∃ q B bl, py = .pointer (some ⟨q, 0, none⟩) ∧ Rf8 w5 o5 20000 q c1.toNat B bl ∧ Ans c1.toNat fs B bl) := by
        rcases Y4 with h | ⟨h, q, B, bl, hp, hr, ha⟩
        · exact .inl h
        · exact .inr ⟨h, q, B, bl, hp, hr.step s5 (fun k hk x => by have := hk.2; omega), ha⟩
      have k5 := of_all w5 o5 50000 30000 c0 cx _ es (lent_vwe RA5) c01 c02 hl2 (by omega) HX.out
      clear k4 s5 S4 X4 Y4 RA4
      go_wp2_with fail
      refine k5.mono ?_
      rintro e w6 ⟨po, o6, rfl, O6, s6⟩
      have S6 : Step Pos w o0 w6 o6 := S5.trans (s6.mono fun k hk => (show 0 < k by have := hk.1; omega))
      have RA6 := RA5.step s6 (fun h => by have := h.1; omega)
      have RB6 := RB5.step s6 (fun h => by have := h.1; omega)
      have X6 : (cx ≠ 0 ∧ px = .pointer none ∧ po = .pointer none) ∨ (cx = 0 ∧ ∃ q p B bl, px = .pointer (some ⟨q, 0, none⟩) ∧ po = .pointer (some ⟨p, 0, none⟩) ∧ Or8 w6 o6 50000 p c0.toNat B bl ∧ Rf8 w6 o6 10000 q c0.toNat B bl ∧ B.length ≤ 192) := by
        rcases X5 with ⟨h, hp⟩ | ⟨h, q, B, bl, hp, hr, ha⟩
        · rcases O6 with ⟨_, hq⟩ | ⟨h', _⟩
          · exact .inl ⟨h, hp, hq⟩
          · exact absurd h' h
        · rcases O6 with ⟨h', _⟩ | ⟨_, p, B', bl', hp', hr', ha'⟩
          · exact absurd h h'
          · have hl : es.length ≤ 192 := by
              have := HX.out
              rw [h] at this
              exact this.fine.2.2
            obtain ⟨r1, r2⟩ := pair8 hr' ha' (hr.step s6 (fun k hk x => by have := hk.2; have := x.1; omega)) ha hl
            exact .inr ⟨h, q, p, B', bl', hp, hp', hr', r1, r2⟩
      have Y6 : (cy ≠ 0 ∧ py = .pointer none) ∨ (cy = 0 ∧ ∃ q B bl, py = .pointer (some ⟨q, 0, none⟩) ∧ Rf8 w6 o6 20000 q c1.toNat B bl ∧ Ans c1.toNat fs B bl) := by
        rcases Y5 with h | ⟨h, q, B, bl, hp, hr, ha⟩
        · exact .inl h
        · exact .inr ⟨h, q, B, bl, hp, hr.step s6 (fun k hk x => by have := hk.2; have := x.1; omega), ha⟩
      have k6 := of_all w6 o6 60000 40000 c1 cy _ fs (lent_vwe RB6) c11 c12 hl3 (by omega) HY.out
      clear k5 s6 S5 X5 Y5 O6 RA5 RB5
      go_wp2_with fail
      refine k6.mono ?_
      rintro e w7 ⟨pp, o7, rfl, O7, s7⟩
      have S7 : Step Pos w o0 w7 o7 := S6.trans (s7.mono fun k hk => (show 0 < k by have := hk.1; omega))
      have RA7 := RA6.step s7 (fun h => by have := h.1; omega)
      have RB7 := RB6.step s7 (fun h => by have := h.1; omega)
      have X7 : (cx ≠ 0 ∧ px = .pointer none ∧ po = .pointer none) ∨ (cx = 0 ∧ ∃ q p B bl, px = .pointer (some ⟨q, 0, none⟩) ∧ po = .pointer (some ⟨p, 0, none⟩) ∧ Or8 w7 o7 50000 p c0.toNat B bl ∧ Rf8 w7 o7 10000 q c0.toNat B bl ∧ B.length ≤ 192) := by
        rcases X6 with h | ⟨h, q, p, B, bl, hp, hq, hr, hr', hl⟩
        · exact .inl h
        · exact .inr ⟨h, q, p, B, bl, hp, hq, hr.step s7 (fun k hk x => by have := hk.2; have := x.1; omega), hr'.step s7 (fun k hk x => by have := hk.2; have := x.1; omega), hl⟩
      have Y7 : (cy ≠ 0 ∧ py = .pointer none ∧ pp = .pointer none) ∨ (cy = 0 ∧ ∃ q p B bl, py = .pointer (some ⟨q, 0, none⟩) ∧ pp = .pointer (some ⟨p, 0, none⟩) ∧ Or8 w7 o7 60000 p c1.toNat B bl ∧ Rf8 w7 o7 20000 q c1.toNat B bl ∧ B.length ≤ 192) := by
        rcases Y6 with ⟨h, hp⟩ | ⟨h, q, B, bl, hp, hr, ha⟩
        · rcases O7 with ⟨_, hq⟩ | ⟨h', _⟩
          · exact .inl ⟨h, hp, hq⟩
          · exact absurd h' h
        · rcases O7 with ⟨h', _⟩ | ⟨_, p, B', bl', hp', hr', ha'⟩
          · exact absurd h h'
          · have hl : fs.length ≤ 192 := by
              have := HY.out
              rw [h] at this
              exact this.fine.2.2
            obtain ⟨r1, r2⟩ := pair8 hr' ha' (hr.step s7 (fun k hk x => by have := hk.2; have := x.1; omega)) ha hl
            exact .inr ⟨h, q, p, B', bl', hp, hp', hr', r1, r2⟩
      have k7 := kept_w w7 o7 0 30000 ga ca _ es (H2.out.step S7 n0) hl2 RA7
      clear k6 s7 S6 X6 Y6 O7 RA6 RB6
      go_wp2_with fail
      refine k7.mono ?_
      rintro e w8 ⟨o8, rfl, s8⟩
      have S8 : Step Pos w o0 w8 o8 := S7.trans (s8.mono fun k hk => (show 0 < k by omega))
      have RB8 := RB7.step s8 (by omega)
      have k8 := kept_w w8 o8 0 40000 gb cb _ fs (H3.out.step S8 n0) hl3 RB8
      clear k7 RA7 RB7
      go_wp2_with fail
      refine k8.mono ?_
      rintro e w9 ⟨o9, rfl, s9⟩
      have S9 : Step Pos w o0 w9 o9 := S8.trans (s9.mono fun k hk => (show 0 < k by omega))
      have s89 : Step (fun k => k = 30000 ∨ k = 40000) w7 o7 w9 o9 := (s8.mono fun k hk => .inl hk).trans (s9.mono fun k hk => .inr hk)
      have X9 : (cx ≠ 0 ∧ px = .pointer none ∧ po = .pointer none) ∨ (cx = 0 ∧ ∃ q p B bl, px = .pointer (some ⟨q, 0, none⟩) ∧ po = .pointer (some ⟨p, 0, none⟩) ∧ Or8 w9 o9 50000 p c0.toNat B bl ∧ Rf8 w9 o9 10000 q c0.toNat B bl ∧ B.length ≤ 192) := by
        rcases X7 with h | ⟨h, q, p, B, bl, hp, hq, hr, hr', hl⟩
        · exact .inl h
        · exact .inr ⟨h, q, p, B, bl, hp, hq, hr.step s89 (fun k hk x => by have := hk.2; have := hk.1; omega), hr'.step s89 (fun k hk x => by have := hk.2; omega), hl⟩
      have Y9 : (cy ≠ 0 ∧ py = .pointer none ∧ pp = .pointer none) ∨ (cy = 0 ∧ ∃ q p B bl, py = .pointer (some ⟨q, 0, none⟩) ∧ pp = .pointer (some ⟨p, 0, none⟩) ∧ Or8 w9 o9 60000 p c1.toNat B bl ∧ Rf8 w9 o9 20000 q c1.toNat B bl ∧ B.length ≤ 192) := by
        rcases Y7 with h | ⟨h, q, p, B, bl, hp, hq, hr, hr', hl⟩
        · exact .inl h
        · exact .inr ⟨h, q, p, B, bl, hp, hq, hr.step s89 (fun k hk x => by have := hk.2; have := hk.1; omega), hr'.step s89 (fun k hk x => by have := hk.2; omega), hl⟩
      have hcx0 : cx = 0 → 1 ≤ c0.toNat ∧ c0.toNat ≤ 64 := fun h => by
        have := HX.out
        rw [h] at this
        have := this.fine
        omega
      have hcy0 : cy = 0 → 1 ≤ c1.toNat ∧ c1.toNat ≤ 64 := fun h => by
        have := HY.out
        rw [h] at this
        have := this.fine
        omega
      have HS : Hid (Step Pos w o0 w9 o9) := S9
      clear k8 RB8 s8 s9 s89 X7 Y7 S7 S8 S9 H2 H3 HX HY
      go_upto_region 12 with fail
      rcases X9 with ⟨hx, rfl, rfl⟩ | ⟨hx, q, p, B, bl, rfl, rfl, XO, XR, hBl⟩
      · rcases Y9 with ⟨hy, rfl, rfl⟩ | ⟨hy, q2, p2, B2, bl2, rfl, rfl, YO, YR, hBl2⟩
        · clear hcx0 hcy0
          have hF : Below w.heap.size w w9 := HS.out.old
          go_wp2
          go_ret
          exact ⟨rfl, hF⟩
        · obtain ⟨z1, z2⟩ := hcy0 hy
          have t1 := told_w w9 o9 60000 p2 20000 q2 c1.toNat 70000 B2 bl2 YO YR z1 z2 hBl2 (by omega) (by omega)
          clear hcx0 hcy0 YO YR
          go_wp2_with fail
          refine t1.mono ?_
          rintro e wA ⟨oA, rfl, sA⟩
          have hF : Below w.heap.size w wA := (HS.out.trans (sA.mono fun k hk => (show 0 < k by omega))).old
          clear t1 sA
          go_wp2
          go_ret
          exact ⟨rfl, hF⟩
      · obtain ⟨y1, y2⟩ := hcx0 hx
        have t1 := told_w w9 o9 50000 p 10000 q c0.toNat 70000 B bl XO XR y1 y2 hBl (by omega) (by omega)
        rcases Y9 with ⟨hy, rfl, rfl⟩ | ⟨hy, q2, p2, B2, bl2, rfl, rfl, YO, YR, hBl2⟩
        · clear hcx0 hcy0
          go_wp2_with fail
          refine t1.mono ?_
          rintro e wA ⟨oA, rfl, sA⟩
          have SA : Step Pos w o0 wA oA := HS.out.trans (sA.mono fun k hk => (show 0 < k by omega))
          have t2 := told_w wA oA 50000 p 10000 q c0.toNat 71000 B bl (XO.step sA (fun k hk x => by have := hk.2; omega)) (XR.step sA (fun k hk x => by have := hk.2; omega)) y1 y2 hBl (by omega) (by omega)
          clear t1 sA XO XR
          go_wp2_with fail
          refine t2.mono ?_
          rintro e wB ⟨oB, rfl, sB⟩
          have hF : Below w.heap.size w wB := (SA.trans (sB.mono fun k hk => (show 0 < k by omega))).old
          clear t2 sB SA
          go_wp2
          go_ret
          exact ⟨rfl, hF⟩
        · obtain ⟨z1, z2⟩ := hcy0 hy
          clear hcx0 hcy0
          go_wp2_with fail
          refine t1.mono ?_
          rintro e wA ⟨oA, rfl, sA⟩
          have SA : Step Pos w o0 wA oA := HS.out.trans (sA.mono fun k hk => (show 0 < k by omega))
          have t2 := told_w wA oA 60000 p2 20000 q2 c1.toNat 71000 B2 bl2 (YO.step sA (fun k hk x => by have := hk.2; omega)) (YR.step sA (fun k hk x => by have := hk.2; omega)) z1 z2 hBl2 (by omega) (by omega)
          have XO2 := XO.step sA (fun k hk x => by have := hk.2; omega)
          have XR2 := XR.step sA (fun k hk x => by have := hk.2; omega)
          clear t1 sA XO XR YO YR
          go_wp2_with fail
          refine t2.mono ?_
          rintro e wB ⟨oB, rfl, sB⟩
          have SB : Step Pos w o0 wB oB := SA.trans (sB.mono fun k hk => (show 0 < k by omega))
          have t3 := told_w wB oB 50000 p 10000 q c0.toNat 72000 B bl (XO2.step sB (fun k hk x => by have := hk.2; omega)) (XR2.step sB (fun k hk x => by have := hk.2; omega)) y1 y2 hBl (by omega) (by omega)
          clear t2 sB SA XO2 XR2
          go_wp2_with fail
          refine t3.mono ?_
          rintro e wC ⟨oC, rfl, sC⟩
          have hF : Below w.heap.size w wC := (SB.trans (sC.mono fun k hk => (show 0 < k by omega))).old
          clear t3 sC SB
          go_wp2
          go_ret
          exact ⟨rfl, hF⟩
    · have i2 : ¬ ((2000 : Int) < (es.length : Int)) := by omega
      have i3 : (2000 : Int) < (fs.length : Int) := by omega
      have hF : Below w.heap.size w w1 := S1.old
      clear S1
      go_wp2
      go_ret
      exact ⟨rfl, hF⟩
  · have i2 : (2000 : Int) < (es.length : Int) := by omega
    have hF : Below w.heap.size w w1 := S1.old
    clear S1
    go_wp2
    go_ret
    exact ⟨rfl, hF⟩
theorem plays_walk (w : World) (c0 c1 : Int) (a2 a3 : Option Addr) (len2 cap2 len3 cap3 : Nat) (f2 f3 : Nat → EdT) (ha2 : ArgE w o0 a2 len2 f2) (ha3 : ArgE w o0 a3 len3 f3) (hr2 : len2 ≤ cap2 ∧ cap2 ≤ maxLen) (hr3 : len3 ≤ cap3 ∧ cap3 ≤ maxLen) (hc0 : i64 c0) (hc1 : i64 c1) :
    Calls Try.prog 3 #[.int .i64 c0, .int .i64 c1, .slice a2 len2 cap2, .slice a3 len3 cap3] w fun e w' => e = .returned (.bool true) ∧ Below w.heap.size w w' :=
  plays_in w c0 c1 _ _ _ _ (ha2.vwe hr2.1 hr2.2) (ha3.vwe hr3.1 hr3.2) hc0 hc1
end Go.Proofs.Ytanahbkkgppfnaa
