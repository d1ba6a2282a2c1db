/- The writer's lists. -/
import Derived.Test.YtafnlhnenmpfoaaDoorSzD
namespace Go.Proofs.YtafnlhnenmpfoaaDoor
open Go.ChangeShapes Go.WideShapes Go.ChangeAt Go.RowKit
set_option linter.unusedVariables false
set_option linter.unusedSimpArgs false

theorem Fs.okA_app : ∀ {x y : Fs}, (x.app y).okA → y.okA
  | ⟨none⟩, y, h => h
  | ⟨some ⟨k, n, nm, a, ks, r⟩⟩, y, h => Fs.okA_app h.2.2
theorem comS_len (i : Nat) : (comS i).1.length ≤ 2 := by unfold comS; split <;> simp
/-- The program's part, where no row is asked for. -/
def Part0 (N : Nat) : Prop := ∀ (e : Ex) (ao : Option Addr) (cap asked wb : Nat) (s : St) (w : World) (o : Nat → Nat), e.kids.size < N → e.okA → asked = 0 → Fit1 e.kids.size s → FixW o w → Sl w (L0 o) e.kids ao → WrS w o wb s →
  Calls Tryd.prog 43 #[.pointer (some ⟨wb, 0, none⟩), exV e ao cap, .int .i64 (asked : Nat)] w (PostS w o wb (wEx e asked s))
set_option maxRecDepth 100000 in
set_option maxHeartbeats 2000000 in
theorem list_w {N : Nat} (IH : Part0 N) (f : Fs) (ao : Option Addr) (cap wb : Nat) (xo xc : List UInt8) (s : St) (w : World) (o : Nat → Nat) (hN : f.size ≤ N) (hf : f.okA) (hl : f.len ≤ 1000000000) (hxo : xo.length ≤ 1) (hxc : xc.length ≤ 1) (F' : Fit f.size s) (FX : FixW o w) (S : Sl w (L0 o) f ao) (H : WrS w o wb s) :
    Calls Tryd.prog 65 #[.pointer (some ⟨wb, 0, none⟩), stv xo, .slice ao f.len cap, stv xc] w (PostS w o wb (wList xo xc (fun g s => wFs f g 0 s) s)) := by
  obtain ⟨F1, F2, F3, F4, F5⟩ := F'
  have B1 : (s.ent.lay xo).t.length ≤ s.t.length + 1 := by simp only [St.lay, St.ent, List.length_append]; omega
  have B2 : (s.ent.lay xo).a = s.a + 1 := rfl
  have B3 : (s.ent.lay xo).m = max s.m (s.a + 1) := rfl
  have B4 : (s.ent.lay xo).b = s.b := rfl
  have B5 : (s.ent.lay xo).n = s.n := rfl
  obtain ⟨W, hW⟩ : ∃ W, W = wFs f comS 0 (s.ent.lay xo) := ⟨_, rfl⟩
  have HT : Hid (wList xo xc (fun g s => wFs f g 0 s) s = (W.lay xc).lea) := by show _ = _; rw [hW]; rfl
  have GW : Gr (f.size * 100) (f.size * 2) f.size (s.ent.lay xo) W := by rw [hW]; exact wFs_gr f (Fs.okA_neat hf) comS 0 _ (fun i => by have := comS_len i; omega)
  have HW : Hid (wFs f comS 0 (s.ent.lay xo) = W) := hW.symm
  rw [HT.out]
  clear hW HT
  have c := openE_r H (by omega) (by omega)
  go_enter Tryd.func65, Tryd.ntmps65
  go_wp2_with fail
  refine c.mono ?_
  rintro e w1 ⟨rfl, o1, H1, T1⟩
  have H1 : WrS w1 o1 wb s.ent := H1
  have S1 := S.stp T1
  have FX1 := FX.stp T1
  clear c H S FX
  have c := lay_r xo H1 (by simp only [St.ent]; omega)
  go_wp2_with fail
  refine c.mono ?_
  rintro e w2 ⟨rfl, o2, H2, st2⟩
  have H2 : WrS w2 o2 wb (s.ent.lay xo) := H2
  have T2 := T1.trans st2
  have S2 := S1.stp st2
  have FX2 := FX1.stp st2
  clear c H1 S1 FX1 T1 st2
  go_wp2
  go_loopw [19] (fun v wr => ∃ (done r : Fs) (u : St) (o' : Nat → Nat), Hid (f = done.app r) ∧ v = .int .i64 (done.len : Nat) ∧ Hid (wFs r comS done.len u = W) ∧ Hid (Gr (done.size * 100) (done.size * 2) done.size (s.ent.lay xo) u) ∧ WrS wr o' wb u ∧ Sl wr (L0 o') f ao ∧ FixW o' wr ∧ Step I12 w o wr o') (fun v _ => f.len - (intOf v).toNat)
  case atStart => exact ⟨.nil, f, s.ent.lay xo, o2, rfl, by show _ = Value.int .i64 ((0 : Nat) : Int); rfl, HW, Gr.refl _, H2, S2, FX2, T2⟩
  case round =>
    clear H2 S2 FX2 T2 HW
    obtain ⟨done, r, u, o3, hk, rfl, HA, HG, H3, S3, FX3, T3⟩ := hrel
    have hlk : f.len = done.len + r.len := by rw [hk.out, Fs.len_app]
    cases r using Fs.on with
    | nil =>
      have hl0 : ¬ (done.len : Int) < (f.len : Int) := by simp only [Fs.len] at hlk; omega
      have hu : u = W := HA.out
      subst hu
      clear HA hlk HG
      have ht := GW.t
      have c := lay_r xc H3 (by omega)
      go_wp2_with fail
      refine c.mono ?_
      rintro e w4 ⟨rfl, o4, H4, st4⟩
      have T4 := T3.trans st4
      clear c T3 st4 H3 S3 FX3
      have ea : u.a = s.a + 1 := GW.a
      rw [ea] at H4
      have c := openL_r H4 (by omega)
      go_wp2_with fail
      refine c.mono ?_
      rintro e w5 ⟨rfl, o5, H5, st5⟩
      have T5 := T4.trans st5
      clear c T4 st5 H4
      go_wp2
      go_end0
      refine ⟨rfl, o5, ?_, T5⟩
      have e2 : (u.lay xc).lea.a = s.a := by simp only [St.lea, St.lay, ea]; omega
      rw [e2]
      exact H5
    | cons kk kn km ka kks kr =>
      have hl0 : (done.len : Int) < (f.len : Int) := by simp only [Fs.len] at hlk; omega
      have hsz : f.size = done.size + (kks.size + kr.size + 1) := by rw [hk.out, Fs.size_app]; rfl
      have hy : (⟨kk, kn, km, ka, kks⟩ : Ex).okA := by
        have h9 := hf
        rw [hk.out] at h9
        exact (okA_ex (x := ⟨kk, kn, km, ka, kks⟩) (r := kr) (Fs.okA_app h9)).1
      have hss : (done.snoc ⟨kk, kn, km, ka, kks⟩).size = done.size + (kks.size + 0 + 1) := by unfold Fs.snoc; rw [Fs.size_app]; rfl
      obtain ⟨b, off, ak, ck, hao, x0, x1, x2, x3, x4, SK⟩ := Sl.kidP (x := done) (y := ⟨kk, kn, km, ka, kks⟩) (r := kr) (by rw [hk.out] at S3; exact S3) done.len rfl
      subst hao
      simp only at x0 x1 x2 x3 x4 SK
      have st4 := boxStep I12 wr o3 (.cells #[.int .i64 kk, .int .i64 kn, stv km, .slice ak kks.len ck, .int .i64 ka] 24)
      have E4 := boxBlk wr o3 #[.int .i64 kk, .int .i64 kn, stv km, .slice ak kks.len ck, .int .i64 ka] 24
      have H4 : WrS _ _ wb u := H3.step (boxStep (fun _ => False) wr o3 (.cells #[.int .i64 kk, .int .i64 kn, stv km, .slice ak kks.len ck, .int .i64 ka] 24)) id id
      have S4 := S3.stp st4
      have SK4 := SK.stp st4
      have FX4 := FX3.stp st4
      have T4 := T3.trans st4
      have G4 := HG.out
      clear HG st4 H3 S3 SK FX3 T3
      go_upto_region 5 with fail
      generalize wr.alloc (.cells #[.int .i64 kk, .int .i64 kn, stv km, .slice ak kks.len ck, .int .i64 ka] 24) = w4 at *
      generalize newLab wr o3 0 = o4 at *
      generalize wr.heap.size = bk at *
      clear x0 x1 x2 x3 x4 hlk
      by_cases hd : done.len = 0
      · have hd0 : ¬ (0 : Int) < (done.len : Int) := by omega
        have HF : Fit1 kks.size u := by
          obtain ⟨g1, g2, g3, g4, g5⟩ := G4
          exact ⟨by omega, by omega, by omega, by omega, by omega⟩
        have hc := IH ⟨kk, kn, km, ka, kks⟩ ak ck 0 wb u w4 o4 (by show kks.size < N; omega) hy (by omega) HF FX4 SK4 H4
        rw [exV_out] at hc
        simp only at hc
        have hg : Gr (kks.size * 100 + 42) (kks.size * 2 + 2) (kks.size + 1) u (wEx ⟨kk, kn, km, ka, kks⟩ 0 (u)) := Ex.gr hy 0 (u)
        obtain ⟨u9, hu9⟩ : ∃ z, z = wEx ⟨kk, kn, km, ka, kks⟩ 0 (u) := ⟨_, rfl⟩
        rw [← hu9] at hc hg
        obtain ⟨p0, p1, p2, p3, p4, pf⟩ := box5 E4.1
        go_wp2_with fail
        refine hc.mono ?_
        rintro e w9 ⟨rfl, o9, H9, st9⟩
        have H9 : WrS w9 o9 wb u9 := H9
        have T9 := T4.trans st9
        have S9 := S4.stp st9
        have FX9 := FX4.stp st9
        have G9 : Gr ((done.snoc ⟨kk, kn, km, ka, kks⟩).size * 100) ((done.snoc ⟨kk, kn, km, ka, kks⟩).size * 2) (done.snoc ⟨kk, kn, km, ka, kks⟩).size (s.ent.lay xo) u9 := by
          refine (G4.trans hg).mono ?_ ?_ ?_ <;> (rw [hss]; omega)
        have HK9 : Hid (f = (done.snoc ⟨kk, kn, km, ka, kks⟩).app kr) := by
          show f = _
          rw [hk.out]
          unfold Fs.snoc
          rw [Fs.app_assoc]
          rfl
        have hls : (done.snoc ⟨kk, kn, km, ka, kks⟩).len = done.len + 1 := Fs.len_snoc _ _
        have HA9 : Hid (wFs kr comS (done.snoc ⟨kk, kn, km, ka, kks⟩).len u9 = W) := by
          show _ = W
          rw [← HA.out, hls, hu9]
          show _ = wFs kr comS (done.len + 1) (wEx ⟨kk, kn, km, ka, kks⟩ (comS done.len).2 (u.lay (comS done.len).1))
          rw [hd]
          show _ = wFs kr comS (0 + 1) (wEx ⟨kk, kn, km, ka, kks⟩ 0 (u.lay []))
          rw [lay_nil]
        clear hc hg st9 T4 S4 FX4 SK4 G4 E4 H4 HA p0 p1 p2 p3 p4 pf
        go_wp2
        go_roundw
        case rel => (try ((repeat apply Exists.intro); refine ⟨?_, rfl⟩)); exact ⟨done.snoc ⟨kk, kn, km, ka, kks⟩, kr, u9, o9, HK9, by rw [hls]; go_num, HA9, G9, H9, S9, FX9, T9⟩
        case measure => simp [intOf]; omega
      · have hd0 : (0 : Int) < (done.len : Int) := by omega
        have ht := G4.t
        have c := lay_r [44, 32] H4 (by simp only [List.length_cons, List.length_nil]; omega)
        go_wp2_with fail
        refine c.mono ?_
        rintro e w5 ⟨rfl, o5, H5, st5⟩
        have H5 : WrS w5 o5 wb (u.lay [44, 32]) := H5
        have S5 := S4.stp st5
        have SK5 := SK4.stp st5
        have FX5 := FX4.stp st5
        have T5 := T4.trans st5
        have E5 := E4.stp st5
        have G5 := G4.lay [44, 32] (c' := done.size * 100 + 2) (by simp)
        have HF4 : Fit1 kks.size u := by
          obtain ⟨g1, g2, g3, g4, g5⟩ := G4
          exact ⟨by omega, by omega, by omega, by omega, by omega⟩
        have q4 := G4.t
        clear c H4 S4 SK4 FX4 T4 E4 G4 st5 ht
        have HF : Fit1 kks.size (u.lay [44, 32]) := ⟨by simp only [St.lay, List.length_append, List.length_cons, List.length_nil]; omega, HF4.a, HF4.m, HF4.b, HF4.n⟩
        have hc := IH ⟨kk, kn, km, ka, kks⟩ ak ck 0 wb (u.lay [44, 32]) w5 o5 (by show kks.size < N; omega) hy (by omega) HF FX5 SK5 H5
        rw [exV_out] at hc
        simp only at hc
        have hg : Gr (kks.size * 100 + 42) (kks.size * 2 + 2) (kks.size + 1) (u.lay [44, 32]) (wEx ⟨kk, kn, km, ka, kks⟩ 0 ((u.lay [44, 32]))) := Ex.gr hy 0 ((u.lay [44, 32]))
        obtain ⟨u9, hu9⟩ : ∃ z, z = wEx ⟨kk, kn, km, ka, kks⟩ 0 ((u.lay [44, 32])) := ⟨_, rfl⟩
        rw [← hu9] at hc hg
        obtain ⟨p0, p1, p2, p3, p4, pf⟩ := box5 E5.1
        go_wp2_with fail
        refine hc.mono ?_
        rintro e w9 ⟨rfl, o9, H9, st9⟩
        have H9 : WrS w9 o9 wb u9 := H9
        have T9 := T5.trans st9
        have S9 := S5.stp st9
        have FX9 := FX5.stp st9
        have G9 : Gr ((done.snoc ⟨kk, kn, km, ka, kks⟩).size * 100) ((done.snoc ⟨kk, kn, km, ka, kks⟩).size * 2) (done.snoc ⟨kk, kn, km, ka, kks⟩).size (s.ent.lay xo) u9 := by
          refine (G5.trans hg).mono ?_ ?_ ?_ <;> (rw [hss]; omega)
        have HK9 : Hid (f = (done.snoc ⟨kk, kn, km, ka, kks⟩).app kr) := by
          show f = _
          rw [hk.out]
          unfold Fs.snoc
          rw [Fs.app_assoc]
          rfl
        have hls : (done.snoc ⟨kk, kn, km, ka, kks⟩).len = done.len + 1 := Fs.len_snoc _ _
        have HA9 : Hid (wFs kr comS (done.snoc ⟨kk, kn, km, ka, kks⟩).len u9 = W) := by
          show _ = W
          rw [← HA.out, hls, hu9]
          show _ = wFs kr comS (done.len + 1) (wEx ⟨kk, kn, km, ka, kks⟩ (comS done.len).2 (u.lay (comS done.len).1))
          have hcm : comS done.len = ([44, 32], 0) := by unfold comS; rw [if_neg hd]
          rw [hcm]
        clear hc hg st9 T5 S5 FX5 SK5 G5 E5 H5 HA p0 p1 p2 p3 p4 pf
        go_wp2
        go_roundw
        case rel => (try ((repeat apply Exists.intro); refine ⟨?_, rfl⟩)); exact ⟨done.snoc ⟨kk, kn, km, ka, kks⟩, kr, u9, o9, HK9, by rw [hls]; go_num, HA9, G9, H9, S9, FX9, T9⟩
        case measure => simp [intOf]; omega
end Go.Proofs.YtafnlhnenmpfoaaDoor
