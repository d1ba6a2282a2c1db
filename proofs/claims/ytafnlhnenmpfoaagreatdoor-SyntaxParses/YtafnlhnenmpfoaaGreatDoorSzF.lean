/- The writer's parts. -/
import Derived.Test.YtafnlhnenmpfoaaGreatDoorSzC
import Derived.Deep.RegionHeld3
namespace Go.Proofs.YtafnlhnenmpfoaaGreatDoor
open Go.ChangeShapes Go.WideShapes Go.ChangeAt Go.RowKit
set_option linter.unusedVariables false
set_option linter.unusedSimpArgs false

theorem lay_nil (s : St) : s.lay [] = s := by simp [St.lay]
theorem stepDrew (I : Nat → Prop) (w : World) (o : Nat → Nat) : Step I w o w.drew o := (Step.refl I w o).drew
set_option maxRecDepth 100000 in
set_option maxHeartbeats 4000000 in
theorem op_w {N : Nat} (IH : PartOk N) (e x0 x1 : Ex) (ao : Option Addr) (cap wb : Nat) (s : St) (w : World) (o : Nat → Nat) (hk : e.kids = Fs.ex x0 (Fs.ex x1 .nil)) (hN : e.kids.size ≤ N) (he : e.kids.okA) (n1 : e.k ≠ 1) (n2 : e.k ≠ 2) (n3 : e.k ≠ 3) (n4 : e.k ≠ 4) (n22 : e.k ≠ 22) (n23 : e.k ≠ 23) (qx : List UInt8 × Nat × Nat × Nat × Nat) (hq : opOf e.k = some qx) (F : Fit1 e.kids.size s) (FX : FixW o w) (S : Sl w (L0 o) e.kids ao) (H : WrS w o wb s) :
    Calls Tryz.prog 106 #[.pointer (some ⟨wb, 0, none⟩), exV e ao cap] w (PostS w o wb (wFs e.kids (opS e.k) 0 s)) := by
  have hx := he
  rw [hk] at hx
  obtain ⟨hx0, hx⟩ := okA_ex hx
  obtain ⟨hx1, -⟩ := okA_ex hx
  have hz : e.kids.size = x0.kids.size + (x1.kids.size + 0 + 1) + 1 := by rw [hk]; rfl
  have hlen : e.kids.len = 2 := by rw [hk]; rfl
  have HK : Hid (e.kids = Fs.ex x0 (Fs.ex x1 .nil)) := hk
  obtain ⟨bb, bf, -, -, rfl, -⟩ := Sl.kidP (x := .nil) (by rw [hk] at S; exact S) 0 rfl
  have hq8 : qx.1.length ≤ 3 ∧ qx.2.2.2.1 ≤ 8 ∧ qx.2.2.2.2 ≤ 8 := by
    have hm := List.mem_of_find?_eq_some hq
    have : ∀ x ∈ opsL, x.1.length ≤ 3 ∧ x.2.2.2.1 ≤ 8 ∧ x.2.2.2.2 ≤ 8 := by decide
    exact this qx hm
  have m1 := bne n1
  have m2 := bne n2
  have m3 := bne n3
  have m4 := bne n4
  have m22 := bne n22
  have m23 := bne n23
  clear hk hx n1 n2 n3 n4 n22 n23
  have st0 := boxStep I12 w o (.cells #[.int .i64 e.k, .int .i64 e.n, stv e.nm, .slice (some ⟨bb, bf, none⟩) 2 cap, .int .i64 e.a] 25)
  have E0 := boxBlk w o #[.int .i64 e.k, .int .i64 e.n, stv e.nm, .slice (some ⟨bb, bf, none⟩) 2 cap, .int .i64 e.a] 25
  have H0 : WrS _ _ wb s := H.step (boxStep (fun _ => False) w o (.cells #[.int .i64 e.k, .int .i64 e.n, stv e.nm, .slice (some ⟨bb, bf, none⟩) 2 cap, .int .i64 e.a] 25)) id id
  have S0 := S.stp st0
  have FX0 := FX.stp st0
  rw [exV_out, hlen]
  clear hlen
  go_enter Tryz.func106, Tryz.ntmps106
  go_upto_region 1 with fail
  generalize w.alloc (.cells #[.int .i64 e.k, .int .i64 e.n, stv e.nm, .slice (some ⟨bb, bf, none⟩) 2 cap, .int .i64 e.a] 25) = w0 at *
  generalize newLab w o 0 = o0 at *
  generalize w.heap.size = bx at *
  have T0 := st0
  clear st0 H S FX
  obtain ⟨v0, hv0⟩ : ∃ z, z = s := ⟨_, rfl⟩
  rw [← hv0] at H0
  obtain ⟨p0, p1, p2, p3, p4, pf⟩ := box5 E0.1
  have c := opOf_r e.k w0 FX0.op
  go_wp2_with fail
  refine c.mono ?_
  rintro y1 w0a ⟨rfl, b1⟩
  have st1 : Step I12 w0 o0 w0a o0 := Step.ofB o0 b1
  have H0a : WrS w0a o0 wb v0 := H0.step (Step.ofB (I := fun _ => False) o0 b1) id id
  have T0a := T0.trans st1
  have E0a := E0.stp st1
  have S0a := S0.stp st1
  have FX0a := FX0.stp st1
  clear c p0 p1 p2 p3 p4 pf T0 E0 S0 FX0 H0 st1 b1
  obtain ⟨p0, p1, p2, p3, p4, pf⟩ := box5 E0a.1
  have hq2 : opsL.find? (fun x => (x.2.1 : Int) == e.k) = some qx := hq
  rw [hq2]
  simp only [opF]
  go_upto_region 3 with fail
  have st2 := boxStep I12 w0a o0 (.cells #[stv qx.1, .int .i64 (qx.2.1 : Nat), .int .i64 (qx.2.2.1 : Nat), .int .i64 (qx.2.2.2.1 : Nat), .int .i64 (qx.2.2.2.2 : Nat)] 137)
  have Q1 := boxBlk w0a o0 #[stv qx.1, .int .i64 (qx.2.1 : Nat), .int .i64 (qx.2.2.1 : Nat), .int .i64 (qx.2.2.2.1 : Nat), .int .i64 (qx.2.2.2.2 : Nat)] 137
  have H1 : WrS _ _ wb v0 := H0a.step (boxStep (fun _ => False) w0a o0 (.cells #[stv qx.1, .int .i64 (qx.2.1 : Nat), .int .i64 (qx.2.2.1 : Nat), .int .i64 (qx.2.2.2.1 : Nat), .int .i64 (qx.2.2.2.2 : Nat)] 137)) id id
  have T1 := T0a.trans st2
  have E1 := E0a.stp st2
  have S1 := S0a.stp st2
  have FX1 := FX0a.stp st2
  clear p0 p1 p2 p3 p4 pf T0a E0a S0a FX0a H0a st2
  generalize w0a.alloc (.cells #[stv qx.1, .int .i64 (qx.2.1 : Nat), .int .i64 (qx.2.2.1 : Nat), .int .i64 (qx.2.2.2.1 : Nat), .int .i64 (qx.2.2.2.2 : Nat)] 137) = w1 at *
  generalize newLab w0a o0 0 = o1 at *
  generalize w0a.heap.size = qb at *
  obtain ⟨v1, hv1⟩ : ∃ z, z = v0 := ⟨_, rfl⟩
  rw [← hv1] at H1
  obtain ⟨p0, p1, p2, p3, p4, pf⟩ := box5 E1.1
  have U : Fit e.kids.size v1 := by
    rw [hv1, hv0]
    exact F.low
  have G1 : Gr 0 0 0 v1 v1 := Gr.refl _
  obtain ⟨b1, off1, ak1, ck1, ho1, q0, q1, q2, q3, q4, SK⟩ := Sl.kidP (x := Fs.nil) (y := x0) (by rw [HK.out] at S1; exact S1) 0 rfl
  obtain ⟨rfl, rfl⟩ := addr_inj ho1
  clear ho1
  simp only [Nat.reduceMul, Nat.add_zero] at q0 q1 q2 q3 q4
  have sd := stepDrew I12 w1 o1
  have hc1 := IH x0 ak1 ck1 (qx.2.2.2.1) wb v1 w1.drew o1 (by omega) hx0 (by omega) (U.gr G1 (by omega) (by omega) (by omega) (by omega) (by omega)) (FX1.stp sd) (SK.stp sd) (H1.step (stepDrew (fun _ => False) w1 o1) id id)
  rw [exV_out] at hc1
  have hg1 := Ex.gr hx0 (qx.2.2.2.1) v1
  obtain ⟨v2, hv2⟩ : ∃ z, z = wEx x0 (qx.2.2.2.1) v1 := ⟨_, rfl⟩
  obtain ⟨r0, r1, r2, r3, r4, rf⟩ := box5 Q1.1
  go_region_with (go_at_call 62; refine hc1.mono ?_; rintro x2 w2 ⟨rfl, o2, H2', st2⟩)
  all_goals
    have H2 : WrS w2 o2 wb v2 := by rw [hv2]; exact H2'
    have T2 := (T1.trans sd).trans st2
    have E2 := (E1.stp sd).stp st2
    have Q2 := (Q1.stp sd).stp st2
    have S2 := (S1.stp sd).stp st2
    have FX2 := (FX1.stp sd).stp st2
    have G2 := G1.trans hg1
    rw [← hv2] at G2
    clear p0 p1 p2 p3 p4 pf r0 r1 r2 r3 r4 rf T1 E1 Q1 S1 FX1 H1 H2' st2 sd G1 hg1 hc1 q0 q1 q2 q3 q4 SK
    obtain ⟨p0, p1, p2, p3, p4, pf⟩ := box5 E2.1
    obtain ⟨r0, r1, r2, r3, r4, rf⟩ := box5 Q2.1
    have hl2 : ([32] ++ qx.1 ++ [32] : List UInt8).length ≤ 22 := by simp only [List.length_append, List.length_cons, List.length_nil]; omega
    have hf2 := (U.gr (D' := 0) G2 (by omega) (by omega) (by omega) (by omega) (by omega)).t
    have c := lay_r ([32] ++ qx.1 ++ [32]) H2 (by omega)
    obtain ⟨v3, hv3⟩ : ∃ z, z = v2.lay ([32] ++ qx.1 ++ [32]) := ⟨_, rfl⟩
    go_wp2_with fail
    refine c.mono ?_
    rintro x3 w3 ⟨rfl, o3, H3', st3⟩
    have H3 : WrS w3 o3 wb v3 := by rw [hv3]; exact H3'
    have T3 := T2.trans st3
    have E3 := E2.stp st3
    have S3 := S2.stp st3
    have FX3 := FX2.stp st3
    have Q3 := Q2.stp st3
    clear c p0 p1 p2 p3 p4 pf T2 E2 S2 FX2 H2 H3' st3 Q2
    obtain ⟨p0, p1, p2, p3, p4, pf⟩ := box5 E3.1
    have G3 := G2.lay ([32] ++ qx.1 ++ [32]) (Nat.add_le_add_left hl2 _)
    rw [← hv3] at G3
    clear G2 hl2 hf2
    clear r0 r1 r2 r3 r4 rf
    go_upto_region 5 with fail
    obtain ⟨b3, off3, ak3, ck3, ho3, q0, q1, q2, q3, q4, SK⟩ := Sl.kidP (x := (Fs.ex x0 Fs.nil)) (y := x1) (by rw [HK.out] at S3; exact S3) 1 rfl
    obtain ⟨rfl, rfl⟩ := addr_inj ho3
    clear ho3
    simp only [Nat.reduceMul, Nat.add_zero] at q0 q1 q2 q3 q4
    have sd := stepDrew I12 w3 o3
    have hc3 := IH x1 ak3 ck3 (qx.2.2.2.2) wb v3 w3.drew o3 (by omega) hx1 (by omega) (U.gr G3 (by omega) (by omega) (by omega) (by omega) (by omega)) (FX3.stp sd) (SK.stp sd) (H3.step (stepDrew (fun _ => False) w3 o3) id id)
    rw [exV_out] at hc3
    have hg3 := Ex.gr hx1 (qx.2.2.2.2) v3
    obtain ⟨v4, hv4⟩ : ∃ z, z = wEx x1 (qx.2.2.2.2) v3 := ⟨_, rfl⟩
    obtain ⟨r0, r1, r2, r3, r4, rf⟩ := box5 Q3.1
    go_region_with (go_at_call 62; refine hc3.mono ?_; rintro x4 w4 ⟨rfl, o4, H4', st4⟩)
    all_goals
      have H4 : WrS w4 o4 wb v4 := by rw [hv4]; exact H4'
      have T4 := (T3.trans sd).trans st4
      have E4 := (E3.stp sd).stp st4
      have Q4 := (Q3.stp sd).stp st4
      have S4 := (S3.stp sd).stp st4
      have FX4 := (FX3.stp sd).stp st4
      have G4 := G3.trans hg3
      rw [← hv4] at G4
      clear p0 p1 p2 p3 p4 pf r0 r1 r2 r3 r4 rf T3 E3 Q3 S3 FX3 H3 H4' st4 sd G3 hg3 hc3 q0 q1 q2 q3 q4 SK
      obtain ⟨p0, p1, p2, p3, p4, pf⟩ := box5 E4.1
      go_wp2
      go_end0
      refine ⟨rfl, o4, ?_, T4⟩
      have hT : wFs e.kids (opS e.k) 0 s = v4 := by
        have u0 : opS e.k 0 = ([], qx.2.2.2.1) := by unfold opS; rw [hq]; rfl
        have u1 : opS e.k (0 + 1) = ([32] ++ qx.1 ++ [32], qx.2.2.2.2) := by unfold opS; rw [hq]; rfl
        rw [HK.out, wFs_ex, wFs_ex, u0, u1]
        show wEx x1 _ ((wEx x0 _ (s.lay [])).lay _) = _
        rw [lay_nil, hv4, hv3, hv2, hv1, hv0]
      rw [hT]
      exact H4
end Go.Proofs.YtafnlhnenmpfoaaGreatDoor
namespace Go.Proofs.YtafnlhnenmpfoaaGreatDoor
open Go.ChangeShapes Go.WideShapes Go.ChangeAt Go.RowKit
set_option linter.unusedVariables false
set_option linter.unusedSimpArgs false

theorem Fs.okA_app : ∀ {x y : Fs}, (x.app y).okA → y.okA
  | ⟨none⟩, y, h => h
  | ⟨some ⟨k, n, nm, a, ks, r⟩⟩, y, h => Fs.okA_app h.2.2
theorem comS_len (i : Nat) : (comS i).1.length ≤ 2 := by unfold comS; split <;> simp
/-- The program's part, where no row is asked for. -/
def Part0 (N : Nat) : Prop := ∀ (e : Ex) (ao : Option Addr) (cap asked wb : Nat) (s : St) (w : World) (o : Nat → Nat), e.kids.size < N → e.okA → asked = 0 → Fit1 e.kids.size s → FixW o w → Sl w (L0 o) e.kids ao → WrS w o wb s →
  Calls Tryz.prog 62 #[.pointer (some ⟨wb, 0, none⟩), exV e ao cap, .int .i64 (asked : Nat)] w (PostS w o wb (wEx e asked s))
set_option maxRecDepth 100000 in
set_option maxHeartbeats 2000000 in
theorem list_w {N : Nat} (IH : Part0 N) (f : Fs) (ao : Option Addr) (cap wb : Nat) (xo xc : List UInt8) (s : St) (w : World) (o : Nat → Nat) (hN : f.size ≤ N) (hf : f.okA) (hl : f.len ≤ 1000000000) (hxo : xo.length ≤ 1) (hxc : xc.length ≤ 1) (F' : Fit f.size s) (FX : FixW o w) (S : Sl w (L0 o) f ao) (H : WrS w o wb s) :
    Calls Tryz.prog 100 #[.pointer (some ⟨wb, 0, none⟩), stv xo, .slice ao f.len cap, stv xc] w (PostS w o wb (wList xo xc (fun g s => wFs f g 0 s) s)) := by
  obtain ⟨F1, F2, F3, F4, F5⟩ := F'
  have B1 : (s.ent.lay xo).t.length ≤ s.t.length + 1 := by simp only [St.lay, St.ent, List.length_append]; omega
  have B2 : (s.ent.lay xo).a = s.a + 1 := rfl
  have B3 : (s.ent.lay xo).m = max s.m (s.a + 1) := rfl
  have B4 : (s.ent.lay xo).b = s.b := rfl
  have B5 : (s.ent.lay xo).n = s.n := rfl
  obtain ⟨W, hW⟩ : ∃ W, W = wFs f comS 0 (s.ent.lay xo) := ⟨_, rfl⟩
  have HT : Hid (wList xo xc (fun g s => wFs f g 0 s) s = (W.lay xc).lea) := by show _ = _; rw [hW]; rfl
  have GW : Gr (f.size * 100) (f.size * 2) f.size (s.ent.lay xo) W := by rw [hW]; exact wFs_gr f (Fs.okA_neat hf) comS 0 _ (fun i => by have := comS_len i; omega)
  have HW : Hid (wFs f comS 0 (s.ent.lay xo) = W) := hW.symm
  rw [HT.out]
  clear hW HT
  have c := openE_r H (by omega) (by omega)
  go_enter Tryz.func100, Tryz.ntmps100
  go_wp2_with fail
  refine c.mono ?_
  rintro e w1 ⟨rfl, o1, H1, T1⟩
  have H1 : WrS w1 o1 wb s.ent := H1
  have S1 := S.stp T1
  have FX1 := FX.stp T1
  clear c H S FX
  have c := lay_r xo H1 (by simp only [St.ent]; omega)
  go_wp2_with fail
  refine c.mono ?_
  rintro e w2 ⟨rfl, o2, H2, st2⟩
  have H2 : WrS w2 o2 wb (s.ent.lay xo) := H2
  have T2 := T1.trans st2
  have S2 := S1.stp st2
  have FX2 := FX1.stp st2
  clear c H1 S1 FX1 T1 st2
  go_wp2
  go_loopw [19] (fun v wr => ∃ (done r : Fs) (u : St) (o' : Nat → Nat), Hid (f = done.app r) ∧ v = .int .i64 (done.len : Nat) ∧ Hid (wFs r comS done.len u = W) ∧ Hid (Gr (done.size * 100) (done.size * 2) done.size (s.ent.lay xo) u) ∧ WrS wr o' wb u ∧ Sl wr (L0 o') f ao ∧ FixW o' wr ∧ Step I12 w o wr o') (fun v _ => f.len - (intOf v).toNat)
  case atStart => exact ⟨.nil, f, s.ent.lay xo, o2, rfl, by show _ = Value.int .i64 ((0 : Nat) : Int); rfl, HW, Gr.refl _, H2, S2, FX2, T2⟩
  case round =>
    clear H2 S2 FX2 T2 HW
    obtain ⟨done, r, u, o3, hk, rfl, HA, HG, H3, S3, FX3, T3⟩ := hrel
    have hlk : f.len = done.len + r.len := by rw [hk.out, Fs.len_app]
    cases r using Fs.on with
    | nil =>
      have hl0 : ¬ (done.len : Int) < (f.len : Int) := by simp only [Fs.len] at hlk; omega
      have hu : u = W := HA.out
      subst hu
      clear HA hlk HG
      have ht := GW.t
      have c := lay_r xc H3 (by omega)
      go_wp2_with fail
      refine c.mono ?_
      rintro e w4 ⟨rfl, o4, H4, st4⟩
      have T4 := T3.trans st4
      clear c T3 st4 H3 S3 FX3
      have ea : u.a = s.a + 1 := GW.a
      rw [ea] at H4
      have c := openL_r H4 (by omega)
      go_wp2_with fail
      refine c.mono ?_
      rintro e w5 ⟨rfl, o5, H5, st5⟩
      have T5 := T4.trans st5
      clear c T4 st5 H4
      go_wp2
      go_end0
      refine ⟨rfl, o5, ?_, T5⟩
      have e2 : (u.lay xc).lea.a = s.a := by simp only [St.lea, St.lay, ea]; omega
      rw [e2]
      exact H5
    | cons kk kn km ka kks kr =>
      have hl0 : (done.len : Int) < (f.len : Int) := by simp only [Fs.len] at hlk; omega
      have hsz : f.size = done.size + (kks.size + kr.size + 1) := by rw [hk.out, Fs.size_app]; rfl
      have hy : (⟨kk, kn, km, ka, kks⟩ : Ex).okA := by
        have h9 := hf
        rw [hk.out] at h9
        exact (okA_ex (x := ⟨kk, kn, km, ka, kks⟩) (r := kr) (Fs.okA_app h9)).1
      have hss : (done.snoc ⟨kk, kn, km, ka, kks⟩).size = done.size + (kks.size + 0 + 1) := by unfold Fs.snoc; rw [Fs.size_app]; rfl
      obtain ⟨b, off, ak, ck, hao, x0, x1, x2, x3, x4, SK⟩ := Sl.kidP (x := done) (y := ⟨kk, kn, km, ka, kks⟩) (r := kr) (by rw [hk.out] at S3; exact S3) done.len rfl
      subst hao
      simp only at x0 x1 x2 x3 x4 SK
      have st4 := boxStep I12 wr o3 (.cells #[.int .i64 kk, .int .i64 kn, stv km, .slice ak kks.len ck, .int .i64 ka] 25)
      have E4 := boxBlk wr o3 #[.int .i64 kk, .int .i64 kn, stv km, .slice ak kks.len ck, .int .i64 ka] 25
      have H4 : WrS _ _ wb u := H3.step (boxStep (fun _ => False) wr o3 (.cells #[.int .i64 kk, .int .i64 kn, stv km, .slice ak kks.len ck, .int .i64 ka] 25)) id id
      have S4 := S3.stp st4
      have SK4 := SK.stp st4
      have FX4 := FX3.stp st4
      have T4 := T3.trans st4
      have G4 := HG.out
      clear HG st4 H3 S3 SK FX3 T3
      go_upto_region 5 with fail
      generalize wr.alloc (.cells #[.int .i64 kk, .int .i64 kn, stv km, .slice ak kks.len ck, .int .i64 ka] 25) = w4 at *
      generalize newLab wr o3 0 = o4 at *
      generalize wr.heap.size = bk at *
      clear x0 x1 x2 x3 x4 hlk
      by_cases hd : done.len = 0
      · have hd0 : ¬ (0 : Int) < (done.len : Int) := by omega
        have HF : Fit1 kks.size u := by
          obtain ⟨g1, g2, g3, g4, g5⟩ := G4
          exact ⟨by omega, by omega, by omega, by omega, by omega⟩
        have hc := IH ⟨kk, kn, km, ka, kks⟩ ak ck 0 wb u w4 o4 (by show kks.size < N; omega) hy (by omega) HF FX4 SK4 H4
        rw [exV_out] at hc
        simp only at hc
        have hg : Gr (kks.size * 100 + 42) (kks.size * 2 + 2) (kks.size + 1) u (wEx ⟨kk, kn, km, ka, kks⟩ 0 (u)) := Ex.gr hy 0 (u)
        obtain ⟨u9, hu9⟩ : ∃ z, z = wEx ⟨kk, kn, km, ka, kks⟩ 0 (u) := ⟨_, rfl⟩
        rw [← hu9] at hc hg
        obtain ⟨p0, p1, p2, p3, p4, pf⟩ := box5 E4.1
        go_wp2_with fail
        refine hc.mono ?_
        rintro e w9 ⟨rfl, o9, H9, st9⟩
        have H9 : WrS w9 o9 wb u9 := H9
        have T9 := T4.trans st9
        have S9 := S4.stp st9
        have FX9 := FX4.stp st9
        have G9 : Gr ((done.snoc ⟨kk, kn, km, ka, kks⟩).size * 100) ((done.snoc ⟨kk, kn, km, ka, kks⟩).size * 2) (done.snoc ⟨kk, kn, km, ka, kks⟩).size (s.ent.lay xo) u9 := by
          refine (G4.trans hg).mono ?_ ?_ ?_ <;> (rw [hss]; omega)
        have HK9 : Hid (f = (done.snoc ⟨kk, kn, km, ka, kks⟩).app kr) := by
          show f = _
          rw [hk.out]
          unfold Fs.snoc
          rw [Fs.app_assoc]
          rfl
        have hls : (done.snoc ⟨kk, kn, km, ka, kks⟩).len = done.len + 1 := Fs.len_snoc _ _
        have HA9 : Hid (wFs kr comS (done.snoc ⟨kk, kn, km, ka, kks⟩).len u9 = W) := by
          show _ = W
          rw [← HA.out, hls, hu9]
          show _ = wFs kr comS (done.len + 1) (wEx ⟨kk, kn, km, ka, kks⟩ (comS done.len).2 (u.lay (comS done.len).1))
          rw [hd]
          show _ = wFs kr comS (0 + 1) (wEx ⟨kk, kn, km, ka, kks⟩ 0 (u.lay []))
          rw [lay_nil]
        clear hc hg st9 T4 S4 FX4 SK4 G4 E4 H4 HA p0 p1 p2 p3 p4 pf
        go_wp2
        go_roundw
        case rel => (try ((repeat apply Exists.intro); refine ⟨?_, rfl⟩)); exact ⟨done.snoc ⟨kk, kn, km, ka, kks⟩, kr, u9, o9, HK9, by rw [hls]; go_num, HA9, G9, H9, S9, FX9, T9⟩
        case measure => simp [intOf]; omega
      · have hd0 : (0 : Int) < (done.len : Int) := by omega
        have ht := G4.t
        have c := lay_r [44, 32] H4 (by simp only [List.length_cons, List.length_nil]; omega)
        go_wp2_with fail
        refine c.mono ?_
        rintro e w5 ⟨rfl, o5, H5, st5⟩
        have H5 : WrS w5 o5 wb (u.lay [44, 32]) := H5
        have S5 := S4.stp st5
        have SK5 := SK4.stp st5
        have FX5 := FX4.stp st5
        have T5 := T4.trans st5
        have E5 := E4.stp st5
        have G5 := G4.lay [44, 32] (c' := done.size * 100 + 2) (by simp)
        have HF4 : Fit1 kks.size u := by
          obtain ⟨g1, g2, g3, g4, g5⟩ := G4
          exact ⟨by omega, by omega, by omega, by omega, by omega⟩
        have q4 := G4.t
        clear c H4 S4 SK4 FX4 T4 E4 G4 st5 ht
        have HF : Fit1 kks.size (u.lay [44, 32]) := ⟨by simp only [St.lay, List.length_append, List.length_cons, List.length_nil]; omega, HF4.a, HF4.m, HF4.b, HF4.n⟩
        have hc := IH ⟨kk, kn, km, ka, kks⟩ ak ck 0 wb (u.lay [44, 32]) w5 o5 (by show kks.size < N; omega) hy (by omega) HF FX5 SK5 H5
        rw [exV_out] at hc
        simp only at hc
        have hg : Gr (kks.size * 100 + 42) (kks.size * 2 + 2) (kks.size + 1) (u.lay [44, 32]) (wEx ⟨kk, kn, km, ka, kks⟩ 0 ((u.lay [44, 32]))) := Ex.gr hy 0 ((u.lay [44, 32]))
        obtain ⟨u9, hu9⟩ : ∃ z, z = wEx ⟨kk, kn, km, ka, kks⟩ 0 ((u.lay [44, 32])) := ⟨_, rfl⟩
        rw [← hu9] at hc hg
        obtain ⟨p0, p1, p2, p3, p4, pf⟩ := box5 E5.1
        go_wp2_with fail
        refine hc.mono ?_
        rintro e w9 ⟨rfl, o9, H9, st9⟩
        have H9 : WrS w9 o9 wb u9 := H9
        have T9 := T5.trans st9
        have S9 := S5.stp st9
        have FX9 := FX5.stp st9
        have G9 : Gr ((done.snoc ⟨kk, kn, km, ka, kks⟩).size * 100) ((done.snoc ⟨kk, kn, km, ka, kks⟩).size * 2) (done.snoc ⟨kk, kn, km, ka, kks⟩).size (s.ent.lay xo) u9 := by
          refine (G5.trans hg).mono ?_ ?_ ?_ <;> (rw [hss]; omega)
        have HK9 : Hid (f = (done.snoc ⟨kk, kn, km, ka, kks⟩).app kr) := by
          show f = _
          rw [hk.out]
          unfold Fs.snoc
          rw [Fs.app_assoc]
          rfl
        have hls : (done.snoc ⟨kk, kn, km, ka, kks⟩).len = done.len + 1 := Fs.len_snoc _ _
        have HA9 : Hid (wFs kr comS (done.snoc ⟨kk, kn, km, ka, kks⟩).len u9 = W) := by
          show _ = W
          rw [← HA.out, hls, hu9]
          show _ = wFs kr comS (done.len + 1) (wEx ⟨kk, kn, km, ka, kks⟩ (comS done.len).2 (u.lay (comS done.len).1))
          have hcm : comS done.len = ([44, 32], 0) := by unfold comS; rw [if_neg hd]
          rw [hcm]
        clear hc hg st9 T5 S5 FX5 SK5 G5 E5 H5 HA p0 p1 p2 p3 p4 pf
        go_wp2
        go_roundw
        case rel => (try ((repeat apply Exists.intro); refine ⟨?_, rfl⟩)); exact ⟨done.snoc ⟨kk, kn, km, ka, kks⟩, kr, u9, o9, HK9, by rw [hls]; go_num, HA9, G9, H9, S9, FX9, T9⟩
        case measure => simp [intOf]; omega
end Go.Proofs.YtafnlhnenmpfoaaGreatDoor
namespace Go.Proofs.YtafnlhnenmpfoaaGreatDoor
open Go.ChangeShapes Go.WideShapes Go.ChangeAt Go.RowKit
set_option linter.unusedVariables false
set_option linter.unusedSimpArgs false

abbrev kW (e : Ex) : Sep → St → St := fun g s => wFs e.kids g 0 s
theorem plain_w {N : Nat} (IH : PartOk N) (e : Ex) (ao : Option Addr) (cap wb : Nat) (s : St) (w : World) (o : Nat → Nat) (hN : e.kids.size ≤ N) (he : e.okA) (n6 : e.k ≠ 6) (n7 : e.k ≠ 7) (n19 : e.k ≠ 19) (n20 : e.k ≠ 20) (n21 : e.k ≠ 21) (n24 : e.k ≠ 24) (n25 : e.k ≠ 25) (F : Fit1 e.kids.size s) (FX : FixW o w) (S : Sl w (L0 o) e.kids ao) (H : WrS w o wb s) :
    Calls Tryz.prog 106 #[.pointer (some ⟨wb, 0, none⟩), exV e ao cap] w (PostS w o wb (wPlain e.k e.n e.nm (kW e) s)) := by
  have ht : s.t.length ≤ 1000000 := by have := F.t; omega
  obtain ⟨⟨g1, g2, g3, g4, g5, g6⟩, hkA⟩ := he
  by_cases h1 : e.k = 1
  · obtain ⟨k, n, nm, a, ks⟩ := e
    simp only at h1 g1 g4 g6
    subst h1
    exact plain1 n nm a ao ks.len cap wb s w o (by simpa [numB] using g1) g6 ht FX H
  by_cases h2 : e.k = 2
  · obtain ⟨k, n, nm, a, ks⟩ := e
    simp only at h2
    subst h2
    exact plain2 n nm a ao ks.len cap wb s w o ht FX H
  by_cases h3 : e.k = 3
  · obtain ⟨k, n, nm, a, ks⟩ := e
    simp only at h3 g1 g4 g6
    subst h3
    exact plain3 n nm a ao ks.len cap wb s w o (by simpa [numB] using g1) g6 ht FX H
  by_cases h4 : e.k = 4
  · obtain ⟨k, n, nm, a, ks⟩ := e
    simp only at h4 g4
    subst h4
    exact plain4 n nm a ao ks.len cap wb s w o g4 ht FX H
  by_cases h23 : e.k = 23
  · obtain ⟨k, n, nm, a, ks⟩ := e
    simp only at h23 g4
    subst h23
    exact plain23 n nm a ao ks.len cap wb s w o g4 ht FX H
  by_cases h22 : e.k = 22
  · obtain ⟨k, n, nm, a, ks⟩ := e
    simp only at h22
    subst h22
    exact plain22 n nm a ao ks.len cap wb s w o ht FX H
  have hw : wPlain e.k e.n e.nm (kW e) s = wFs e.kids (opS e.k) 0 s := by simp [wPlain, h1, h2, h3, h4, h23, h22]
  rw [hw]
  unfold kidB at g3
  simp only [bne h1, bne h2, bne h3, bne h4, bne h22, bne h23, bne n6, bne n7, bne n19, bne n20, bne n21, bne n24, bne n25, Bool.or_false, Bool.false_or, Bool.false_eq_true, if_false, Bool.and_eq_true] at g3
  obtain ⟨g3, g7⟩ := g3
  obtain ⟨qx, hq⟩ := Option.isSome_iff_exists.1 g3
  have hl2 : e.kids.len = 2 := by simp at g7; omega
  obtain ⟨x0, x1, hk⟩ := len2 hl2
  exact op_w IH e x0 x1 ao cap wb s w o hk hN hkA h1 h2 h3 h4 h22 h23 qx hq F FX S H
set_option maxRecDepth 100000 in
theorem part_7 {N : Nat} (IH : PartOk N) (e : Ex) (ao : Option Addr) (cap asked wb : Nat) (s : St) (w : World) (o : Nat → Nat) (hN : e.kids.size < N + 1) (he : e.okA) (hr : ¬ rowOf e.k < asked) (hk : e.k = 7) (F : Fit1 e.kids.size s) (FX : FixW o w) (S : Sl w (L0 o) e.kids ao) (H : WrS w o wb s) :
    Calls Tryz.prog 62 #[.pointer (some ⟨wb, 0, none⟩), exV e ao cap, .int .i64 (asked : Nat)] w (PostS w o wb (wNode e.k e.n e.nm (kW e) s)) := by
  obtain ⟨⟨g1, g2, g3, g4, g5, g6⟩, hkA⟩ := he
  have hlen : e.kids.len = 1 := by simp [kidB, hk] at g3; omega
  obtain ⟨x0, hks⟩ := len1 hlen
  have hw : wNode e.k e.n e.nm (kW e) s = (wEx x0 3 (s.ent.lay [110, 111, 116, 32])).lea := by simp [wNode, hk, kW, hks, wFs_ex, wFs]
  rw [hw]
  have hx0 : x0.okA := (okA_ex (by rw [hks] at hkA; exact hkA)).1
  have hz : e.kids.size = x0.kids.size + 0 + 1 := by rw [hks]; rfl
  have HK : Hid (e.kids = Fs.ex x0 .nil) := hks
  obtain ⟨bb, bf, -, -, rfl, -⟩ := Sl.kidP (x := .nil) (by rw [hks] at S; exact S) 0 rfl
  have m7 : (e.k == 7) = true := by rw [beq_iff_eq]; exact hk
  clear hks hw g1 g2 g3 hk
  have st0 := boxStep I12 w o (.cells #[.int .i64 e.k, .int .i64 e.n, stv e.nm, .slice (some ⟨bb, bf, none⟩) 1 cap, .int .i64 e.a] 25)
  have E0 := boxBlk w o #[.int .i64 e.k, .int .i64 e.n, stv e.nm, .slice (some ⟨bb, bf, none⟩) 1 cap, .int .i64 e.a] 25
  have H0 : WrS _ _ wb s := H.step (boxStep (fun _ => False) w o (.cells #[.int .i64 e.k, .int .i64 e.n, stv e.nm, .slice (some ⟨bb, bf, none⟩) 1 cap, .int .i64 e.a] 25)) id id
  have S0 := S.stp st0
  have FX0 := FX.stp st0
  have hrI : ¬ ((rowOf e.k : Nat) : Int) < (asked : Int) := by omega
  rw [exV_out, hlen]
  go_enter Tryz.func62, Tryz.ntmps62
  go_upto_region 1 with fail
  generalize w.alloc (.cells #[.int .i64 e.k, .int .i64 e.n, stv e.nm, .slice (some ⟨bb, bf, none⟩) 1 cap, .int .i64 e.a] 25) = w0 at *
  generalize newLab w o 0 = o0 at *
  generalize w.heap.size = bx at *
  have T0 := st0
  clear st0 H S FX
  obtain ⟨p0, p1, p2, p3, p4, pf⟩ := box5 E0.1
  have c := rowOf_r e.k w0 FX0.op
  go_wp2_with fail
  refine c.mono ?_
  rintro y1 w1 ⟨rfl, b1⟩
  have st1 : Step I12 w0 o0 w1 o0 := Step.ofB o0 b1
  have H1 : WrS w1 o0 wb s := H0.step (Step.ofB (I := fun _ => False) o0 b1) id id
  have T1 := T0.trans st1
  have E1 := E0.stp st1
  have S1 := S0.stp st1
  have FX1 := FX0.stp st1
  clear c p0 p1 p2 p3 p4 pf T0 E0 S0 FX0 H0 st1 b1
  obtain ⟨p0, p1, p2, p3, p4, pf⟩ := box5 E1.1
  obtain ⟨b1, off1, ak1, ck1, ho1, q0, q1, q2, q3, q4, SK⟩ := Sl.kidP (x := .nil) (y := x0) (by rw [HK.out] at S1; exact S1) 0 rfl
  obtain ⟨rfl, rfl⟩ := addr_inj ho1
  clear ho1
  simp only [Nat.reduceMul, Nat.add_zero] at q0 q1 q2 q3 q4
  have hc := prefixed_r IH x0 ak1 ck1 3 wb [110, 111, 116, 32] s w1 o0 (by omega) hx0 (by omega) (by simp) (by have := F; rw [hz] at this; exact this) FX1 SK H1
  rw [exV_out] at hc
  go_wp2_with fail
  refine hc.mono ?_
  rintro y2 w9 ⟨rfl, o9, H9, st9⟩
  have T9 := T1.trans st9
  clear hc T1 st9
  go_wp2
  go_end0
  exact ⟨rfl, o9, H9, T9⟩
set_option maxRecDepth 100000 in
theorem part_6 {N : Nat} (IH : PartOk N) (e : Ex) (ao : Option Addr) (cap asked wb : Nat) (s : St) (w : World) (o : Nat → Nat) (hN : e.kids.size < N + 1) (he : e.okA) (hr : ¬ rowOf e.k < asked) (hk : e.k = 6) (F : Fit1 e.kids.size s) (FX : FixW o w) (S : Sl w (L0 o) e.kids ao) (H : WrS w o wb s) :
    Calls Tryz.prog 62 #[.pointer (some ⟨wb, 0, none⟩), exV e ao cap, .int .i64 (asked : Nat)] w (PostS w o wb (wNode e.k e.n e.nm (kW e) s)) := by
  obtain ⟨⟨g1, g2, g3, g4, g5, g6⟩, hkA⟩ := he
  have hlen : e.kids.len = 1 := by simp [kidB, hk] at g3; omega
  obtain ⟨x0, hks⟩ := len1 hlen
  have hw : wNode e.k e.n e.nm (kW e) s = (wEx x0 7 (s.ent.lay [45])).lea := by simp [wNode, hk, kW, hks, wFs_ex, wFs]
  rw [hw]
  have hx0 : x0.okA := (okA_ex (by rw [hks] at hkA; exact hkA)).1
  have hz : e.kids.size = x0.kids.size + 0 + 1 := by rw [hks]; rfl
  have HK : Hid (e.kids = Fs.ex x0 .nil) := hks
  obtain ⟨bb, bf, -, -, rfl, -⟩ := Sl.kidP (x := .nil) (by rw [hks] at S; exact S) 0 rfl
  have m7 : (e.k == 7) = false := bne (by omega)
  have m6 : (e.k == 6) = true := by rw [beq_iff_eq]; exact hk
  clear hks hw g1 g2 g3 hk
  have st0 := boxStep I12 w o (.cells #[.int .i64 e.k, .int .i64 e.n, stv e.nm, .slice (some ⟨bb, bf, none⟩) 1 cap, .int .i64 e.a] 25)
  have E0 := boxBlk w o #[.int .i64 e.k, .int .i64 e.n, stv e.nm, .slice (some ⟨bb, bf, none⟩) 1 cap, .int .i64 e.a] 25
  have H0 : WrS _ _ wb s := H.step (boxStep (fun _ => False) w o (.cells #[.int .i64 e.k, .int .i64 e.n, stv e.nm, .slice (some ⟨bb, bf, none⟩) 1 cap, .int .i64 e.a] 25)) id id
  have S0 := S.stp st0
  have FX0 := FX.stp st0
  have hrI : ¬ ((rowOf e.k : Nat) : Int) < (asked : Int) := by omega
  rw [exV_out, hlen]
  go_enter Tryz.func62, Tryz.ntmps62
  go_upto_region 1 with fail
  generalize w.alloc (.cells #[.int .i64 e.k, .int .i64 e.n, stv e.nm, .slice (some ⟨bb, bf, none⟩) 1 cap, .int .i64 e.a] 25) = w0 at *
  generalize newLab w o 0 = o0 at *
  generalize w.heap.size = bx at *
  have T0 := st0
  clear st0 H S FX
  obtain ⟨p0, p1, p2, p3, p4, pf⟩ := box5 E0.1
  have c := rowOf_r e.k w0 FX0.op
  go_wp2_with fail
  refine c.mono ?_
  rintro y1 w1 ⟨rfl, b1⟩
  have st1 : Step I12 w0 o0 w1 o0 := Step.ofB o0 b1
  have H1 : WrS w1 o0 wb s := H0.step (Step.ofB (I := fun _ => False) o0 b1) id id
  have T1 := T0.trans st1
  have E1 := E0.stp st1
  have S1 := S0.stp st1
  have FX1 := FX0.stp st1
  clear c p0 p1 p2 p3 p4 pf T0 E0 S0 FX0 H0 st1 b1
  obtain ⟨p0, p1, p2, p3, p4, pf⟩ := box5 E1.1
  obtain ⟨b1, off1, ak1, ck1, ho1, q0, q1, q2, q3, q4, SK⟩ := Sl.kidP (x := .nil) (y := x0) (by rw [HK.out] at S1; exact S1) 0 rfl
  obtain ⟨rfl, rfl⟩ := addr_inj ho1
  clear ho1
  simp only [Nat.reduceMul, Nat.add_zero] at q0 q1 q2 q3 q4
  have hc := prefixed_r IH x0 ak1 ck1 7 wb [45] s w1 o0 (by omega) hx0 (by omega) (by simp) (by have := F; rw [hz] at this; exact this) FX1 SK H1
  rw [exV_out] at hc
  go_wp2_with fail
  refine hc.mono ?_
  rintro y2 w9 ⟨rfl, o9, H9, st9⟩
  have T9 := T1.trans st9
  clear hc T1 st9
  go_wp2
  go_end0
  exact ⟨rfl, o9, H9, T9⟩
set_option maxRecDepth 100000 in
theorem part_19 {N : Nat} (IH : PartOk N) (e : Ex) (ao : Option Addr) (cap asked wb : Nat) (s : St) (w : World) (o : Nat → Nat) (hN : e.kids.size < N + 1) (he : e.okA) (hr : ¬ rowOf e.k < asked) (hk : e.k = 19) (F : Fit1 e.kids.size s) (FX : FixW o w) (S : Sl w (L0 o) e.kids ao) (H : WrS w o wb s) :
    Calls Tryz.prog 62 #[.pointer (some ⟨wb, 0, none⟩), exV e ao cap, .int .i64 (asked : Nat)] w (PostS w o wb (wNode e.k e.n e.nm (kW e) s)) := by
  obtain ⟨⟨g1, g2, g3, g4, g5, g6⟩, hkA⟩ := he
  have hlen : e.kids.len = 3 := by simp [kidB, hk] at g3; omega
  obtain ⟨x0, x1, x2, hks⟩ := len3 hlen
  have hw : wNode e.k e.n e.nm (kW e) s = (wFs e.kids ifS 0 s.ent).lea := by simp [wNode, hk, kW]
  rw [hw]
  have HK : Hid (e.kids = Fs.ex x0 (Fs.ex x1 (Fs.ex x2 .nil))) := hks
  have HL : Hid (e.kids.len = 3) := hlen
  have m7 : (e.k == 7) = false := bne (by omega)
  have m6 : (e.k == 6) = false := bne (by omega)
  have m19 : (e.k == 19) = true := by rw [beq_iff_eq]; exact hk
  clear hks hw g1 g2 g3 hk
  have st0 := boxStep I12 w o (.cells #[.int .i64 e.k, .int .i64 e.n, stv e.nm, .slice ao 3 cap, .int .i64 e.a] 25)
  have E0 := boxBlk w o #[.int .i64 e.k, .int .i64 e.n, stv e.nm, .slice ao 3 cap, .int .i64 e.a] 25
  have H0 : WrS _ _ wb s := H.step (boxStep (fun _ => False) w o (.cells #[.int .i64 e.k, .int .i64 e.n, stv e.nm, .slice ao 3 cap, .int .i64 e.a] 25)) id id
  have S0 := S.stp st0
  have FX0 := FX.stp st0
  have hrI : ¬ ((rowOf e.k : Nat) : Int) < (asked : Int) := by omega
  rw [exV_out, hlen]
  go_enter Tryz.func62, Tryz.ntmps62
  go_upto_region 1 with fail
  generalize w.alloc (.cells #[.int .i64 e.k, .int .i64 e.n, stv e.nm, .slice ao 3 cap, .int .i64 e.a] 25) = w0 at *
  generalize newLab w o 0 = o0 at *
  generalize w.heap.size = bx at *
  have T0 := st0
  clear st0 H S FX
  obtain ⟨p0, p1, p2, p3, p4, pf⟩ := box5 E0.1
  have c := rowOf_r e.k w0 FX0.op
  go_wp2_with fail
  refine c.mono ?_
  rintro y1 w1 ⟨rfl, b1⟩
  have st1 : Step I12 w0 o0 w1 o0 := Step.ofB o0 b1
  have H1 : WrS w1 o0 wb s := H0.step (Step.ofB (I := fun _ => False) o0 b1) id id
  have T1 := T0.trans st1
  have E1 := E0.stp st1
  have S1 := S0.stp st1
  have FX1 := FX0.stp st1
  clear c p0 p1 p2 p3 p4 pf T0 E0 S0 FX0 H0 st1 b1
  obtain ⟨p0, p1, p2, p3, p4, pf⟩ := box5 E1.1
  have hc := choice_w IH e x0 x1 x2 ao cap wb s w1 o0 HK.out (by omega) hkA F FX1 S1 H1
  rw [exV_out, HL.out] at hc
  go_wp2_with fail
  refine hc.mono ?_
  rintro y2 w9 ⟨rfl, o9, H9, st9⟩
  have T9 := T1.trans st9
  clear hc T1 st9
  go_wp2
  go_end0
  exact ⟨rfl, o9, H9, T9⟩
set_option maxRecDepth 100000 in
theorem part_21 {N : Nat} (IH : PartOk N) (e : Ex) (ao : Option Addr) (cap asked wb : Nat) (s : St) (w : World) (o : Nat → Nat) (hN : e.kids.size < N + 1) (he : e.okA) (hr : ¬ rowOf e.k < asked) (hk : e.k = 21) (F : Fit1 e.kids.size s) (FX : FixW o w) (S : Sl w (L0 o) e.kids ao) (H : WrS w o wb s) :
    Calls Tryz.prog 62 #[.pointer (some ⟨wb, 0, none⟩), exV e ao cap, .int .i64 (asked : Nat)] w (PostS w o wb (wNode e.k e.n e.nm (kW e) s)) := by
  obtain ⟨⟨g1, g2, g3, g4, g5, g6⟩, hkA⟩ := he
  have hlen : e.kids.len = 2 := by simp [kidB, hk] at g3; omega
  have hqs : (quantOf e.n).isSome = true := by simpa [numB, hk] using g1
  obtain ⟨qx, hq⟩ := Option.isSome_iff_exists.1 hqs
  obtain ⟨x0, x1, hks⟩ := len2 hlen
  have hw : wNode e.k e.n e.nm (kW e) s = (wFs e.kids (quS e.n e.nm) 0 s.ent.qent).qlea.lea := by simp [wNode, hk, kW]
  rw [hw]
  have HK : Hid (e.kids = Fs.ex x0 (Fs.ex x1 .nil)) := hks
  have HL : Hid (e.kids.len = 2) := hlen
  have m7 : (e.k == 7) = false := bne (by omega)
  have m6 : (e.k == 6) = false := bne (by omega)
  have m19 : (e.k == 19) = false := bne (by omega)
  have m21 : (e.k == 21) = true := by rw [beq_iff_eq]; exact hk
  clear hks hw g1 g2 g3 hk hqs
  have st0 := boxStep I12 w o (.cells #[.int .i64 e.k, .int .i64 e.n, stv e.nm, .slice ao 2 cap, .int .i64 e.a] 25)
  have E0 := boxBlk w o #[.int .i64 e.k, .int .i64 e.n, stv e.nm, .slice ao 2 cap, .int .i64 e.a] 25
  have H0 : WrS _ _ wb s := H.step (boxStep (fun _ => False) w o (.cells #[.int .i64 e.k, .int .i64 e.n, stv e.nm, .slice ao 2 cap, .int .i64 e.a] 25)) id id
  have S0 := S.stp st0
  have FX0 := FX.stp st0
  have hrI : ¬ ((rowOf e.k : Nat) : Int) < (asked : Int) := by omega
  rw [exV_out, hlen]
  go_enter Tryz.func62, Tryz.ntmps62
  go_upto_region 1 with fail
  generalize w.alloc (.cells #[.int .i64 e.k, .int .i64 e.n, stv e.nm, .slice ao 2 cap, .int .i64 e.a] 25) = w0 at *
  generalize newLab w o 0 = o0 at *
  generalize w.heap.size = bx at *
  have T0 := st0
  clear st0 H S FX
  obtain ⟨p0, p1, p2, p3, p4, pf⟩ := box5 E0.1
  have c := rowOf_r e.k w0 FX0.op
  go_wp2_with fail
  refine c.mono ?_
  rintro y1 w1 ⟨rfl, b1⟩
  have st1 : Step I12 w0 o0 w1 o0 := Step.ofB o0 b1
  have H1 : WrS w1 o0 wb s := H0.step (Step.ofB (I := fun _ => False) o0 b1) id id
  have T1 := T0.trans st1
  have E1 := E0.stp st1
  have S1 := S0.stp st1
  have FX1 := FX0.stp st1
  clear c p0 p1 p2 p3 p4 pf T0 E0 S0 FX0 H0 st1 b1
  obtain ⟨p0, p1, p2, p3, p4, pf⟩ := box5 E1.1
  have hc := quant_w IH e x0 x1 ao cap wb s w1 o0 HK.out (by omega) hkA g4 qx hq F FX1 S1 H1
  rw [exV_out, HL.out] at hc
  go_wp2_with fail
  refine hc.mono ?_
  rintro y2 w9 ⟨rfl, o9, H9, st9⟩
  have T9 := T1.trans st9
  clear hc T1 st9
  go_wp2
  go_end0
  exact ⟨rfl, o9, H9, T9⟩
set_option maxRecDepth 100000 in
theorem part_d {N : Nat} (IH : PartOk N) (e : Ex) (ao : Option Addr) (cap asked wb : Nat) (s : St) (w : World) (o : Nat → Nat) (hN : e.kids.size < N + 1) (he : e.okA) (hr : ¬ rowOf e.k < asked) (n6 : e.k ≠ 6) (n7 : e.k ≠ 7) (n19 : e.k ≠ 19) (n20 : e.k ≠ 20) (n21 : e.k ≠ 21) (n24 : e.k ≠ 24) (n25 : e.k ≠ 25) (F : Fit1 e.kids.size s) (FX : FixW o w) (S : Sl w (L0 o) e.kids ao) (H : WrS w o wb s) :
    Calls Tryz.prog 62 #[.pointer (some ⟨wb, 0, none⟩), exV e ao cap, .int .i64 (asked : Nat)] w (PostS w o wb (wNode e.k e.n e.nm (kW e) s)) := by
  have hw : wNode e.k e.n e.nm (kW e) s = wPlain e.k e.n e.nm (kW e) s := by simp [wNode, n6, n7, n19, n20, n21, n24, n25]
  rw [hw]
  have m7 := bne n7
  have m6 := bne n6
  have m19 := bne n19
  have m21 := bne n21
  have m20 := bne n20
  have m24 := bne n24
  have m25 := bne n25
  clear hw
  have st0 := boxStep I12 w o (.cells #[.int .i64 e.k, .int .i64 e.n, stv e.nm, .slice ao e.kids.len cap, .int .i64 e.a] 25)
  have E0 := boxBlk w o #[.int .i64 e.k, .int .i64 e.n, stv e.nm, .slice ao e.kids.len cap, .int .i64 e.a] 25
  have H0 : WrS _ _ wb s := H.step (boxStep (fun _ => False) w o (.cells #[.int .i64 e.k, .int .i64 e.n, stv e.nm, .slice ao e.kids.len cap, .int .i64 e.a] 25)) id id
  have S0 := S.stp st0
  have FX0 := FX.stp st0
  have hrI : ¬ ((rowOf e.k : Nat) : Int) < (asked : Int) := by omega
  rw [exV_out]
  go_enter Tryz.func62, Tryz.ntmps62
  go_upto_region 1 with fail
  generalize w.alloc (.cells #[.int .i64 e.k, .int .i64 e.n, stv e.nm, .slice ao e.kids.len cap, .int .i64 e.a] 25) = w0 at *
  generalize newLab w o 0 = o0 at *
  generalize w.heap.size = bx at *
  have T0 := st0
  clear st0 H S FX
  obtain ⟨p0, p1, p2, p3, p4, pf⟩ := box5 E0.1
  have c := rowOf_r e.k w0 FX0.op
  go_wp2_with fail
  refine c.mono ?_
  rintro y1 w1 ⟨rfl, b1⟩
  have st1 : Step I12 w0 o0 w1 o0 := Step.ofB o0 b1
  have H1 : WrS w1 o0 wb s := H0.step (Step.ofB (I := fun _ => False) o0 b1) id id
  have T1 := T0.trans st1
  have E1 := E0.stp st1
  have S1 := S0.stp st1
  have FX1 := FX0.stp st1
  clear c p0 p1 p2 p3 p4 pf T0 E0 S0 FX0 H0 st1 b1
  obtain ⟨p0, p1, p2, p3, p4, pf⟩ := box5 E1.1
  have hc := plain_w IH e ao cap wb s w1 o0 (by omega) he n6 n7 n19 n20 n21 n24 n25 F FX1 S1 H1
  rw [exV_out] at hc
  go_wp2_with fail
  refine hc.mono ?_
  rintro y2 w9 ⟨rfl, o9, H9, st9⟩
  have T9 := T1.trans st9
  clear hc T1 st9
  go_wp2
  go_end0
  exact ⟨rfl, o9, H9, T9⟩
end Go.Proofs.YtafnlhnenmpfoaaGreatDoor
