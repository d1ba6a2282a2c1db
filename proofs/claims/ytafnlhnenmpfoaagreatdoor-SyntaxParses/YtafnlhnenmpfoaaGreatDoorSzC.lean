/- The writer's plain parts. -/
import Derived.Test.YtafnlhnenmpfoaaGreatDoorSzA
namespace Go.Proofs.YtafnlhnenmpfoaaGreatDoor
open Go.ChangeShapes Go.WideShapes Go.ChangeAt Go.RowKit
set_option linter.unusedVariables false
set_option linter.unusedSimpArgs false

/-- A tree ahead of others. -/
def Fs.ex (x : Ex) (r : Fs) : Fs := .cons x.k x.n x.nm x.a x.kids r
theorem wFs_ex (x : Ex) (r : Fs) (g : Sep) (i : Nat) (s : St) : wFs (Fs.ex x r) g i s = wFs r g (i + 1) (wEx x (g i).2 (s.lay (g i).1)) := rfl
theorem okA_ex {x : Ex} {r : Fs} (h : (Fs.ex x r).okA) : x.okA ∧ r.okA := ⟨⟨h.1, h.2.1⟩, h.2.2⟩
theorem len1 : ∀ {f : Fs}, f.len = 1 → ∃ x, f = Fs.ex x .nil
  | ⟨none⟩, h => by cases h
  | ⟨some ⟨k, n, nm, a, ks, ⟨none⟩⟩⟩, h => ⟨⟨k, n, nm, a, ks⟩, rfl⟩
  | ⟨some ⟨_, _, _, _, _, (⟨some ⟨_, _, _, _, _, _⟩⟩)⟩⟩, h => by simp [Fs.len] at h
theorem len2 : ∀ {f : Fs}, f.len = 2 → ∃ x y, f = Fs.ex x (Fs.ex y .nil)
  | ⟨none⟩, h => by cases h
  | ⟨some ⟨k, n, nm, a, ks, r⟩⟩, h => by
    obtain ⟨y, rfl⟩ := len1 (f := r) (by simp only [Fs.len] at h; omega)
    exact ⟨⟨k, n, nm, a, ks⟩, y, rfl⟩
theorem len3 : ∀ {f : Fs}, f.len = 3 → ∃ x y z, f = Fs.ex x (Fs.ex y (Fs.ex z .nil))
  | ⟨none⟩, h => by cases h
  | ⟨some ⟨k, n, nm, a, ks, r⟩⟩, h => by
    obtain ⟨y, z, rfl⟩ := len2 (f := r) (by simp only [Fs.len] at h; omega)
    exact ⟨⟨k, n, nm, a, ks⟩, y, z, rfl⟩
/-- What one of the kids is. -/
theorem Sl.kidP {w : World} {P : Nat → Prop} {x r : Fs} {y : Ex} {ao : Option Addr} (h : Sl w P (x.app (Fs.ex y r)) ao) (i : Nat) (hi : x.len = i) : ∃ b off ak ck, ao = some ⟨b, off, none⟩ ∧ w.cell? ⟨b, off + i * 5, none⟩ = some (.int .i64 y.k) ∧ w.cell? ⟨b, off + i * 5 + 1, none⟩ = some (.int .i64 y.n) ∧ w.cell? ⟨b, off + i * 5 + 2, none⟩ = some (stv y.nm) ∧ w.cell? ⟨b, off + i * 5 + 3, none⟩ = some (.slice ak y.kids.len ck) ∧ w.cell? ⟨b, off + i * 5 + 4, none⟩ = some (.int .i64 y.a) ∧ Sl w P y.kids ak := by
  subst hi
  rcases h with h | ⟨b, off, zs, rfl, hp, hlt, hc, hf⟩
  · cases x using Fs.on with
    | nil => cases h
    | cons k n nm a ks r => cases h
  · obtain ⟨zx, zy, rfl, h3, h4⟩ := Fc.split hf
    have hl := h3.len
    obtain ⟨ak, ck, ys, rfl, h5, h6⟩ := h4
    have hc' : ∀ j u, (.int .i64 y.k :: .int .i64 y.n :: stv y.nm :: .slice ak y.kids.len ck :: .int .i64 y.a :: ys : List Value)[j]? = some u → w.cell? ⟨b, off + x.len * 5 + j, none⟩ = some u := fun j u hu => by
      have := hc (x.len * 5 + j) u (by rw [List.getElem?_append_right (by omega), hl, Nat.add_sub_cancel_left]; exact hu)
      rw [Nat.add_assoc]
      exact this
    exact ⟨b, off, ak, ck, rfl, hc' 0 _ rfl, hc' 1 _ rfl, hc' 2 _ rfl, hc' 3 _ rfl, hc' 4 _ rfl, h5⟩
theorem cells2k {w : World} {b : Nat} {a0 a1 : Value} {t : TypeId} (h : w.heap[b]? = some (.cells #[a0, a1] t (0, 0))) : w.cell? ⟨b, 0, none⟩ = some a0 ∧ w.cell? ⟨b, 1, none⟩ = some a1 ∧ ∀ j, w.frozen? ⟨b, j, none⟩ = false := by
  refine ⟨?_, ?_, fun j => frozen_of_row w b j _ t h⟩ <;> simp [cell_of_row w b _ _ t (0, 0) h]
theorem addr_inj {b f b' f' : Nat} (h : some (⟨b, f, none⟩ : Addr) = some ⟨b', f', none⟩) : b' = b ∧ f' = f := by
  injection h with h
  injection h with h1 h2
  exact ⟨h1.symm, h2.symm⟩
theorem Fit.gr {D D' c d q : Nat} {u v : St} (F : Fit D u) (G : Gr c d q u v) (hc : c + 100 * D' ≤ 100 * D) (hd : d + 2 * D' ≤ 2 * D + d) (hd2 : d ≤ 2 * D) (hq : q ≤ D) (hD : D' ≤ D) : Fit D' v := by
  obtain ⟨f1, f2, f3, f4, f5⟩ := F
  obtain ⟨g1, g2, g3, g4, g5⟩ := G
  exact ⟨by omega, by omega, by omega, by omega, by omega⟩
theorem Fit1.ent {D : Nat} {s : St} (F : Fit1 D s) : Fit D s.ent := by
  obtain ⟨f1, f2, f3, f4, f5⟩ := F
  exact ⟨by simp only [St.ent]; omega, by simp only [St.ent]; omega, by simp only [St.ent]; omega, by simp only [St.ent]; omega, by simp only [St.ent]; omega⟩
theorem Fit1.qent {D : Nat} {s : St} (F : Fit1 D s) : Fit D s.ent.qent := by
  obtain ⟨f1, f2, f3, f4, f5⟩ := F
  exact ⟨by simp only [St.ent, St.qent]; omega, by simp only [St.ent, St.qent]; omega, by simp only [St.ent, St.qent]; omega, by simp only [St.ent, St.qent]; omega, by simp only [St.ent, St.qent]; omega⟩
set_option maxRecDepth 100000 in
theorem choice_w {N : Nat} (IH : PartOk N) (e x0 x1 x2 : Ex) (ao : Option Addr) (cap wb : Nat) (s : St) (w : World) (o : Nat → Nat) (hk : e.kids = Fs.ex x0 (Fs.ex x1 (Fs.ex x2 .nil))) (hN : e.kids.size ≤ N) (he : e.kids.okA) (F : Fit1 e.kids.size s) (FX : FixW o w) (S : Sl w (L0 o) e.kids ao) (H : WrS w o wb s) :
    Calls Tryz.prog 102 #[.pointer (some ⟨wb, 0, none⟩), exV e ao cap] w (PostS w o wb (wFs e.kids ifS 0 s.ent).lea) := by
  have hx := he
  rw [hk] at hx
  obtain ⟨hx0, hx⟩ := okA_ex hx
  obtain ⟨hx1, hx⟩ := okA_ex hx
  obtain ⟨hx2, -⟩ := okA_ex hx
  have hz : e.kids.size = x0.kids.size + (x1.kids.size + (x2.kids.size + 0 + 1) + 1) + 1 := by rw [hk]; rfl
  have hlen : e.kids.len = 3 := by rw [hk]; rfl
  have HK : Hid (e.kids = Fs.ex x0 (Fs.ex x1 (Fs.ex x2 .nil))) := hk
  obtain ⟨bb, bf, -, -, rfl, -⟩ := Sl.kidP (x := .nil) (by rw [hk] at S; exact S) 0 rfl
  clear hk hx
  have st0 := boxStep I12 w o (.cells #[.int .i64 e.k, .int .i64 e.n, stv e.nm, .slice (some ⟨bb, bf, none⟩) 3 cap, .int .i64 e.a] 25)
  have E0 := boxBlk w o #[.int .i64 e.k, .int .i64 e.n, stv e.nm, .slice (some ⟨bb, bf, none⟩) 3 cap, .int .i64 e.a] 25
  have H0 : WrS _ _ wb s := H.step (boxStep (fun _ => False) w o (.cells #[.int .i64 e.k, .int .i64 e.n, stv e.nm, .slice (some ⟨bb, bf, none⟩) 3 cap, .int .i64 e.a] 25)) id id
  have S0 := S.stp st0
  have FX0 := FX.stp st0
  rw [exV_out, hlen]
  clear hlen
  go_enter Tryz.func102, Tryz.ntmps102
  go_upto_region 1 with fail
  generalize w.alloc (.cells #[.int .i64 e.k, .int .i64 e.n, stv e.nm, .slice (some ⟨bb, bf, none⟩) 3 cap, .int .i64 e.a] 25) = w0 at *
  generalize newLab w o 0 = o0 at *
  generalize w.heap.size = bx at *
  have T0 := st0
  clear st0 H S FX
  obtain ⟨v0, hv0⟩ : ∃ z, z = s := ⟨_, rfl⟩
  rw [← hv0] at H0
  obtain ⟨p0, p1, p2, p3, p4, pf⟩ := box5 E0.1
  have c := openE_r H0 (by have := F.a; have := F.m; rw [hv0]; omega) (by have := F.a; have := F.m; rw [hv0]; omega)
  obtain ⟨v1, hv1⟩ : ∃ z, z = v0.ent := ⟨_, rfl⟩
  go_wp2_with fail
  refine c.mono ?_
  rintro x1 w1 ⟨rfl, o1, H1', st1⟩
  have H1 : WrS w1 o1 wb v1 := by rw [hv1]; exact H1'
  have T1 := T0.trans st1
  have E1 := E0.stp st1
  have S1 := S0.stp st1
  have FX1 := FX0.stp st1
  clear c p0 p1 p2 p3 p4 pf T0 E0 S0 FX0 H0 H1' st1
  obtain ⟨p0, p1, p2, p3, p4, pf⟩ := box5 E1.1
  have U : Fit e.kids.size v1 := by
    rw [hv1, hv0]
    exact F.ent
  have G1 : Gr 0 0 0 v1 v1 := Gr.refl _
  have hl1 : ([105, 102, 32] : List UInt8).length ≤ 3 := by simp
  have hf1 := (U.gr (D' := 0) G1 (by omega) (by omega) (by omega) (by omega) (by omega)).t
  have c := lay_r ([105, 102, 32]) H1 (by omega)
  obtain ⟨v2, hv2⟩ : ∃ z, z = v1.lay ([105, 102, 32]) := ⟨_, rfl⟩
  go_wp2_with fail
  refine c.mono ?_
  rintro x2 w2 ⟨rfl, o2, H2', st2⟩
  have H2 : WrS w2 o2 wb v2 := by rw [hv2]; exact H2'
  have T2 := T1.trans st2
  have E2 := E1.stp st2
  have S2 := S1.stp st2
  have FX2 := FX1.stp st2
  clear c p0 p1 p2 p3 p4 pf T1 E1 S1 FX1 H1 H2' st2
  obtain ⟨p0, p1, p2, p3, p4, pf⟩ := box5 E2.1
  have G2 := G1.lay ([105, 102, 32]) (Nat.add_le_add_left hl1 _)
  rw [← hv2] at G2
  clear G1 hl1 hf1
  obtain ⟨b2, off2, ak2, ck2, ho2, q0, q1, q2, q3, q4, SK⟩ := Sl.kidP (x := Fs.nil) (y := x0) (by rw [HK.out] at S2; exact S2) 0 rfl
  obtain ⟨rfl, rfl⟩ := addr_inj ho2
  clear ho2
  simp only [Nat.reduceMul, Nat.add_zero] at q0 q1 q2 q3 q4
  have hc2 := IH x0 ak2 ck2 (0) wb v2 w2 o2 (by omega) hx0 (by omega) (U.gr G2 (by omega) (by omega) (by omega) (by omega) (by omega)) FX2 SK H2
  rw [exV_out] at hc2
  have hg2 := Ex.gr hx0 (0) v2
  have c := hc2
  obtain ⟨v3, hv3⟩ : ∃ z, z = wEx x0 (0) v2 := ⟨_, rfl⟩
  go_wp2_with fail
  refine c.mono ?_
  rintro x3 w3 ⟨rfl, o3, H3', st3⟩
  have H3 : WrS w3 o3 wb v3 := by rw [hv3]; exact H3'
  have T3 := T2.trans st3
  have E3 := E2.stp st3
  have S3 := S2.stp st3
  have FX3 := FX2.stp st3
  clear c p0 p1 p2 p3 p4 pf T2 E2 S2 FX2 H2 H3' st3
  obtain ⟨p0, p1, p2, p3, p4, pf⟩ := box5 E3.1
  have G3 := G2.trans hg2
  rw [← hv3] at G3
  clear G2 hg2 hc2 q0 q1 q2 q3 q4 SK
  have hl3 : ([32, 116, 104, 101, 110, 32] : List UInt8).length ≤ 6 := by simp
  have hf3 := (U.gr (D' := 0) G3 (by omega) (by omega) (by omega) (by omega) (by omega)).t
  have c := lay_r ([32, 116, 104, 101, 110, 32]) H3 (by omega)
  obtain ⟨v4, hv4⟩ : ∃ z, z = v3.lay ([32, 116, 104, 101, 110, 32]) := ⟨_, rfl⟩
  go_wp2_with fail
  refine c.mono ?_
  rintro x4 w4 ⟨rfl, o4, H4', st4⟩
  have H4 : WrS w4 o4 wb v4 := by rw [hv4]; exact H4'
  have T4 := T3.trans st4
  have E4 := E3.stp st4
  have S4 := S3.stp st4
  have FX4 := FX3.stp st4
  clear c p0 p1 p2 p3 p4 pf T3 E3 S3 FX3 H3 H4' st4
  obtain ⟨p0, p1, p2, p3, p4, pf⟩ := box5 E4.1
  have G4 := G3.lay ([32, 116, 104, 101, 110, 32]) (Nat.add_le_add_left hl3 _)
  rw [← hv4] at G4
  clear G3 hl3 hf3
  obtain ⟨b4, off4, ak4, ck4, ho4, q0, q1, q2, q3, q4, SK⟩ := Sl.kidP (x := (Fs.ex x0 Fs.nil)) (y := x1) (by rw [HK.out] at S4; exact S4) 1 rfl
  obtain ⟨rfl, rfl⟩ := addr_inj ho4
  clear ho4
  simp only [Nat.reduceMul, Nat.add_zero] at q0 q1 q2 q3 q4
  have hc4 := IH x1 ak4 ck4 (0) wb v4 w4 o4 (by omega) hx1 (by omega) (U.gr G4 (by omega) (by omega) (by omega) (by omega) (by omega)) FX4 SK H4
  rw [exV_out] at hc4
  have hg4 := Ex.gr hx1 (0) v4
  have c := hc4
  obtain ⟨v5, hv5⟩ : ∃ z, z = wEx x1 (0) v4 := ⟨_, rfl⟩
  go_wp2_with fail
  refine c.mono ?_
  rintro x5 w5 ⟨rfl, o5, H5', st5⟩
  have H5 : WrS w5 o5 wb v5 := by rw [hv5]; exact H5'
  have T5 := T4.trans st5
  have E5 := E4.stp st5
  have S5 := S4.stp st5
  have FX5 := FX4.stp st5
  clear c p0 p1 p2 p3 p4 pf T4 E4 S4 FX4 H4 H5' st5
  obtain ⟨p0, p1, p2, p3, p4, pf⟩ := box5 E5.1
  have G5 := G4.trans hg4
  rw [← hv5] at G5
  clear G4 hg4 hc4 q0 q1 q2 q3 q4 SK
  have hl5 : ([32, 101, 108, 115, 101, 32] : List UInt8).length ≤ 6 := by simp
  have hf5 := (U.gr (D' := 0) G5 (by omega) (by omega) (by omega) (by omega) (by omega)).t
  have c := lay_r ([32, 101, 108, 115, 101, 32]) H5 (by omega)
  obtain ⟨v6, hv6⟩ : ∃ z, z = v5.lay ([32, 101, 108, 115, 101, 32]) := ⟨_, rfl⟩
  go_wp2_with fail
  refine c.mono ?_
  rintro x6 w6 ⟨rfl, o6, H6', st6⟩
  have H6 : WrS w6 o6 wb v6 := by rw [hv6]; exact H6'
  have T6 := T5.trans st6
  have E6 := E5.stp st6
  have S6 := S5.stp st6
  have FX6 := FX5.stp st6
  clear c p0 p1 p2 p3 p4 pf T5 E5 S5 FX5 H5 H6' st6
  obtain ⟨p0, p1, p2, p3, p4, pf⟩ := box5 E6.1
  have G6 := G5.lay ([32, 101, 108, 115, 101, 32]) (Nat.add_le_add_left hl5 _)
  rw [← hv6] at G6
  clear G5 hl5 hf5
  obtain ⟨b6, off6, ak6, ck6, ho6, q0, q1, q2, q3, q4, SK⟩ := Sl.kidP (x := (Fs.ex x0 (Fs.ex x1 Fs.nil))) (y := x2) (by rw [HK.out] at S6; exact S6) 2 rfl
  obtain ⟨rfl, rfl⟩ := addr_inj ho6
  clear ho6
  simp only [Nat.reduceMul, Nat.add_zero] at q0 q1 q2 q3 q4
  have hc6 := IH x2 ak6 ck6 (0) wb v6 w6 o6 (by omega) hx2 (by omega) (U.gr G6 (by omega) (by omega) (by omega) (by omega) (by omega)) FX6 SK H6
  rw [exV_out] at hc6
  have hg6 := Ex.gr hx2 (0) v6
  have c := hc6
  obtain ⟨v7, hv7⟩ : ∃ z, z = wEx x2 (0) v6 := ⟨_, rfl⟩
  go_wp2_with fail
  refine c.mono ?_
  rintro x7 w7 ⟨rfl, o7, H7', st7⟩
  have H7 : WrS w7 o7 wb v7 := by rw [hv7]; exact H7'
  have T7 := T6.trans st7
  have E7 := E6.stp st7
  have S7 := S6.stp st7
  have FX7 := FX6.stp st7
  clear c p0 p1 p2 p3 p4 pf T6 E6 S6 FX6 H6 H7' st7
  obtain ⟨p0, p1, p2, p3, p4, pf⟩ := box5 E7.1
  have G7 := G6.trans hg6
  rw [← hv7] at G7
  clear G6 hg6 hc6 q0 q1 q2 q3 q4 SK
  have ga := G7.a
  have ea7 : v7.a = s.a + 1 := by
    rw [G7.a, hv1, hv0]; rfl
  have K7 : Wr w7 o7 wb v7.t (s.a + 1) v7.m v7.b v7.n := by rw [← ea7]; exact H7
  have c := openL_r K7 (by have := F.a; omega)
  obtain ⟨v8, hv8⟩ : ∃ z, z = v7.lea := ⟨_, rfl⟩
  go_wp2_with fail
  refine c.mono ?_
  rintro x8 w8 ⟨rfl, o8, H8', st8⟩
  have H8 : WrS w8 o8 wb v8 := by rw [hv8]; show Wr _ _ _ v7.t (v7.a - 1) v7.m v7.b v7.n; rw [ea7]; exact H8'
  have T8 := T7.trans st8
  have E8 := E7.stp st8
  have S8 := S7.stp st8
  have FX8 := FX7.stp st8
  clear c p0 p1 p2 p3 p4 pf T7 E7 S7 FX7 H7 H8' st8
  obtain ⟨p0, p1, p2, p3, p4, pf⟩ := box5 E8.1
  go_wp2
  go_end0
  refine ⟨rfl, o8, ?_, T8⟩
  have hT : (wFs e.kids ifS 0 s.ent).lea = v8 := by
    rw [HK.out, wFs_ex, wFs_ex, wFs_ex, hv8, hv7, hv6, hv5, hv4, hv3, hv2, hv1, hv0]
    rfl
  rw [hT]
  exact H8
set_option maxRecDepth 100000 in
theorem quant_w {N : Nat} (IH : PartOk N) (e x0 x1 : Ex) (ao : Option Addr) (cap wb : Nat) (s : St) (w : World) (o : Nat → Nat) (hk : e.kids = Fs.ex x0 (Fs.ex x1 .nil)) (hN : e.kids.size ≤ N) (he : e.kids.okA) (hnm : e.nm.length ≤ 12) (qx : List UInt8 × Nat) (hq : quantOf e.n = some qx) (F : Fit1 e.kids.size s) (FX : FixW o w) (S : Sl w (L0 o) e.kids ao) (H : WrS w o wb s) :
    Calls Tryz.prog 103 #[.pointer (some ⟨wb, 0, none⟩), exV e ao cap] w (PostS w o wb (wFs e.kids (quS e.n e.nm) 0 s.ent.qent).qlea.lea) := by
  have hx := he
  rw [hk] at hx
  obtain ⟨hx0, hx⟩ := okA_ex hx
  obtain ⟨hx1, -⟩ := okA_ex hx
  have hz : e.kids.size = x0.kids.size + (x1.kids.size + 0 + 1) + 1 := by rw [hk]; rfl
  have hlen : e.kids.len = 2 := by rw [hk]; rfl
  have HK : Hid (e.kids = Fs.ex x0 (Fs.ex x1 .nil)) := hk
  obtain ⟨bb, bf, -, -, rfl, -⟩ := Sl.kidP (x := .nil) (by rw [hk] at S; exact S) 0 rfl
  have hqw2 : qword e.n = qx.1 := by unfold qword; rw [hq]
  have hqw : qx.1.length ≤ 5 := by
    have := qword_len e.n
    unfold qword at this
    rw [hq] at this
    exact this
  clear hk hx
  have st0 := boxStep I12 w o (.cells #[.int .i64 e.k, .int .i64 e.n, stv e.nm, .slice (some ⟨bb, bf, none⟩) 2 cap, .int .i64 e.a] 25)
  have E0 := boxBlk w o #[.int .i64 e.k, .int .i64 e.n, stv e.nm, .slice (some ⟨bb, bf, none⟩) 2 cap, .int .i64 e.a] 25
  have H0 : WrS _ _ wb s := H.step (boxStep (fun _ => False) w o (.cells #[.int .i64 e.k, .int .i64 e.n, stv e.nm, .slice (some ⟨bb, bf, none⟩) 2 cap, .int .i64 e.a] 25)) id id
  have S0 := S.stp st0
  have FX0 := FX.stp st0
  rw [exV_out, hlen]
  clear hlen
  go_enter Tryz.func103, Tryz.ntmps103
  go_upto_region 1 with fail
  generalize w.alloc (.cells #[.int .i64 e.k, .int .i64 e.n, stv e.nm, .slice (some ⟨bb, bf, none⟩) 2 cap, .int .i64 e.a] 25) = w0 at *
  generalize newLab w o 0 = o0 at *
  generalize w.heap.size = bx at *
  have T0 := st0
  clear st0 H S FX
  obtain ⟨v0, hv0⟩ : ∃ z, z = s := ⟨_, rfl⟩
  rw [← hv0] at H0
  obtain ⟨p0, p1, p2, p3, p4, pf⟩ := box5 E0.1
  have c := quantOf_r e.n w0 FX0.qn
  go_wp2_with fail
  refine c.mono ?_
  rintro y1 w0a ⟨rfl, b1⟩
  have st1 : Step I12 w0 o0 w0a o0 := Step.ofB o0 b1
  have H0a : WrS w0a o0 wb v0 := H0.step (Step.ofB (I := fun _ => False) o0 b1) id id
  have T0a := T0.trans st1
  have E0a := E0.stp st1
  have S0a := S0.stp st1
  have FX0a := FX0.stp st1
  clear c p0 p1 p2 p3 p4 pf T0 E0 S0 FX0 H0 st1 b1
  obtain ⟨p0, p1, p2, p3, p4, pf⟩ := box5 E0a.1
  have hq2 : quantsL.find? (fun x => (x.2 : Int) == e.n) = some qx := hq
  rw [hq2]
  simp only [qnF]
  go_upto_region 2 with fail
  have st2 := boxStep I12 w0a o0 (.cells #[stv qx.1, .int .i64 (qx.2 : Nat)] 133)
  have Q1 := boxBlk w0a o0 #[stv qx.1, .int .i64 (qx.2 : Nat)] 133
  have H1 : WrS _ _ wb v0 := H0a.step (boxStep (fun _ => False) w0a o0 (.cells #[stv qx.1, .int .i64 (qx.2 : Nat)] 133)) id id
  have T1 := T0a.trans st2
  have E1 := E0a.stp st2
  have S1 := S0a.stp st2
  have FX1 := FX0a.stp st2
  clear p0 p1 p2 p3 p4 pf T0a E0a S0a FX0a H0a st2
  generalize w0a.alloc (.cells #[stv qx.1, .int .i64 (qx.2 : Nat)] 133) = w1 at *
  generalize newLab w0a o0 0 = o1 at *
  generalize w0a.heap.size = qb at *
  obtain ⟨v1, hv1⟩ : ∃ z, z = v0 := ⟨_, rfl⟩
  rw [← hv1] at H1
  obtain ⟨p0, p1, p2, p3, p4, pf⟩ := box5 E1.1
  have c := openE_r H1 (by have := F.a; have := F.m; rw [hv1, hv0]; omega) (by have := F.a; have := F.m; rw [hv1, hv0]; omega)
  obtain ⟨v2, hv2⟩ : ∃ z, z = v1.ent := ⟨_, rfl⟩
  go_wp2_with fail
  refine c.mono ?_
  rintro x2 w2 ⟨rfl, o2, H2', st2⟩
  have H2 : WrS w2 o2 wb v2 := by rw [hv2]; exact H2'
  have T2 := T1.trans st2
  have E2 := E1.stp st2
  have S2 := S1.stp st2
  have FX2 := FX1.stp st2
  have Q2 := Q1.stp st2
  clear c p0 p1 p2 p3 p4 pf T1 E1 S1 FX1 H1 H2' st2 Q1
  obtain ⟨p0, p1, p2, p3, p4, pf⟩ := box5 E2.1
  have c := quantE_r H2 (by have := F.b; have := F.n; rw [hv2, hv1, hv0]; simp only [St.ent]; omega) (by have := F.b; have := F.n; rw [hv2, hv1, hv0]; simp only [St.ent]; omega)
  obtain ⟨v3, hv3⟩ : ∃ z, z = v2.qent := ⟨_, rfl⟩
  go_wp2_with fail
  refine c.mono ?_
  rintro x3 w3 ⟨rfl, o3, H3', st3⟩
  have H3 : WrS w3 o3 wb v3 := by rw [hv3]; exact H3'
  have T3 := T2.trans st3
  have E3 := E2.stp st3
  have S3 := S2.stp st3
  have FX3 := FX2.stp st3
  have Q3 := Q2.stp st3
  clear c p0 p1 p2 p3 p4 pf T2 E2 S2 FX2 H2 H3' st3 Q2
  obtain ⟨p0, p1, p2, p3, p4, pf⟩ := box5 E3.1
  have U : Fit e.kids.size v3 := by
    rw [hv3, hv2, hv1, hv0]
    exact F.qent
  have G3 : Gr 0 0 0 v3 v3 := Gr.refl _
  obtain ⟨r0, r1, rf⟩ := cells2k Q3.1
  have hl3 : (qx.1 ++ [32] ++ e.nm ++ [32, 105, 110, 32] : List UInt8).length ≤ 22 := by simp only [List.length_append, List.length_cons, List.length_nil]; omega
  have hf3 := (U.gr (D' := 0) G3 (by omega) (by omega) (by omega) (by omega) (by omega)).t
  have c := lay_r (qx.1 ++ [32] ++ e.nm ++ [32, 105, 110, 32]) H3 (by omega)
  obtain ⟨v4, hv4⟩ : ∃ z, z = v3.lay (qx.1 ++ [32] ++ e.nm ++ [32, 105, 110, 32]) := ⟨_, rfl⟩
  go_wp2_with fail
  refine c.mono ?_
  rintro x4 w4 ⟨rfl, o4, H4', st4⟩
  have H4 : WrS w4 o4 wb v4 := by rw [hv4]; exact H4'
  have T4 := T3.trans st4
  have E4 := E3.stp st4
  have S4 := S3.stp st4
  have FX4 := FX3.stp st4
  have Q4 := Q3.stp st4
  clear c p0 p1 p2 p3 p4 pf T3 E3 S3 FX3 H3 H4' st4 Q3
  obtain ⟨p0, p1, p2, p3, p4, pf⟩ := box5 E4.1
  have G4 := G3.lay (qx.1 ++ [32] ++ e.nm ++ [32, 105, 110, 32]) (Nat.add_le_add_left hl3 _)
  rw [← hv4] at G4
  clear G3 hl3 hf3
  clear r0 r1 rf
  obtain ⟨b4, off4, ak4, ck4, ho4, q0, q1, q2, q3, q4, SK⟩ := Sl.kidP (x := Fs.nil) (y := x0) (by rw [HK.out] at S4; exact S4) 0 rfl
  obtain ⟨rfl, rfl⟩ := addr_inj ho4
  clear ho4
  simp only [Nat.reduceMul, Nat.add_zero] at q0 q1 q2 q3 q4
  have hc4 := IH x0 ak4 ck4 (0) wb v4 w4 o4 (by omega) hx0 (by omega) (U.gr G4 (by omega) (by omega) (by omega) (by omega) (by omega)) FX4 SK H4
  rw [exV_out] at hc4
  have hg4 := Ex.gr hx0 (0) v4
  have c := hc4
  obtain ⟨v5, hv5⟩ : ∃ z, z = wEx x0 (0) v4 := ⟨_, rfl⟩
  go_wp2_with fail
  refine c.mono ?_
  rintro x5 w5 ⟨rfl, o5, H5', st5⟩
  have H5 : WrS w5 o5 wb v5 := by rw [hv5]; exact H5'
  have T5 := T4.trans st5
  have E5 := E4.stp st5
  have S5 := S4.stp st5
  have FX5 := FX4.stp st5
  have Q5 := Q4.stp st5
  clear c p0 p1 p2 p3 p4 pf T4 E4 S4 FX4 H4 H5' st5 Q4
  obtain ⟨p0, p1, p2, p3, p4, pf⟩ := box5 E5.1
  have G5 := G4.trans hg4
  rw [← hv5] at G5
  clear G4 hg4 hc4 q0 q1 q2 q3 q4 SK
  have hl5 : ([58, 32] : List UInt8).length ≤ 2 := by simp
  have hf5 := (U.gr (D' := 0) G5 (by omega) (by omega) (by omega) (by omega) (by omega)).t
  have c := lay_r ([58, 32]) H5 (by omega)
  obtain ⟨v6, hv6⟩ : ∃ z, z = v5.lay ([58, 32]) := ⟨_, rfl⟩
  go_wp2_with fail
  refine c.mono ?_
  rintro x6 w6 ⟨rfl, o6, H6', st6⟩
  have H6 : WrS w6 o6 wb v6 := by rw [hv6]; exact H6'
  have T6 := T5.trans st6
  have E6 := E5.stp st6
  have S6 := S5.stp st6
  have FX6 := FX5.stp st6
  have Q6 := Q5.stp st6
  clear c p0 p1 p2 p3 p4 pf T5 E5 S5 FX5 H5 H6' st6 Q5
  obtain ⟨p0, p1, p2, p3, p4, pf⟩ := box5 E6.1
  have G6 := G5.lay ([58, 32]) (Nat.add_le_add_left hl5 _)
  rw [← hv6] at G6
  clear G5 hl5 hf5
  obtain ⟨b6, off6, ak6, ck6, ho6, q0, q1, q2, q3, q4, SK⟩ := Sl.kidP (x := (Fs.ex x0 Fs.nil)) (y := x1) (by rw [HK.out] at S6; exact S6) 1 rfl
  obtain ⟨rfl, rfl⟩ := addr_inj ho6
  clear ho6
  simp only [Nat.reduceMul, Nat.add_zero] at q0 q1 q2 q3 q4
  have hc6 := IH x1 ak6 ck6 (0) wb v6 w6 o6 (by omega) hx1 (by omega) (U.gr G6 (by omega) (by omega) (by omega) (by omega) (by omega)) FX6 SK H6
  rw [exV_out] at hc6
  have hg6 := Ex.gr hx1 (0) v6
  have c := hc6
  obtain ⟨v7, hv7⟩ : ∃ z, z = wEx x1 (0) v6 := ⟨_, rfl⟩
  go_wp2_with fail
  refine c.mono ?_
  rintro x7 w7 ⟨rfl, o7, H7', st7⟩
  have H7 : WrS w7 o7 wb v7 := by rw [hv7]; exact H7'
  have T7 := T6.trans st7
  have E7 := E6.stp st7
  have S7 := S6.stp st7
  have FX7 := FX6.stp st7
  have Q7 := Q6.stp st7
  clear c p0 p1 p2 p3 p4 pf T6 E6 S6 FX6 H6 H7' st7 Q6
  obtain ⟨p0, p1, p2, p3, p4, pf⟩ := box5 E7.1
  have G7 := G6.trans hg6
  rw [← hv7] at G7
  clear G6 hg6 hc6 q0 q1 q2 q3 q4 SK
  have ga := G7.a
  have ea7 : v7.b = s.b + 1 := by
    rw [G7.b, hv3, hv2, hv1, hv0]; rfl
  have K7 : Wr w7 o7 wb v7.t v7.a v7.m (s.b + 1) v7.n := by rw [← ea7]; exact H7
  have c := quantL_r K7 (by have := F.b; omega)
  obtain ⟨v8, hv8⟩ : ∃ z, z = v7.qlea := ⟨_, rfl⟩
  go_wp2_with fail
  refine c.mono ?_
  rintro x8 w8 ⟨rfl, o8, H8', st8⟩
  have H8 : WrS w8 o8 wb v8 := by rw [hv8]; show Wr _ _ _ v7.t v7.a v7.m (v7.b - 1) v7.n; rw [ea7]; exact H8'
  have T8 := T7.trans st8
  have E8 := E7.stp st8
  have S8 := S7.stp st8
  have FX8 := FX7.stp st8
  have Q8 := Q7.stp st8
  clear c p0 p1 p2 p3 p4 pf T7 E7 S7 FX7 H7 H8' st8 Q7
  obtain ⟨p0, p1, p2, p3, p4, pf⟩ := box5 E8.1
  have ea8 : v8.a = s.a + 1 := by
    rw [hv8]; show v7.a = _; rw [ga, hv3, hv2, hv1, hv0]; rfl
  have K8 : Wr w8 o8 wb v8.t (s.a + 1) v8.m v8.b v8.n := by rw [← ea8]; exact H8
  have c := openL_r K8 (by have := F.a; omega)
  obtain ⟨v9, hv9⟩ : ∃ z, z = v8.lea := ⟨_, rfl⟩
  go_wp2_with fail
  refine c.mono ?_
  rintro x9 w9 ⟨rfl, o9, H9', st9⟩
  have H9 : WrS w9 o9 wb v9 := by rw [hv9]; show Wr _ _ _ v8.t (v8.a - 1) v8.m v8.b v8.n; rw [ea8]; exact H9'
  have T9 := T8.trans st9
  have E9 := E8.stp st9
  have S9 := S8.stp st9
  have FX9 := FX8.stp st9
  have Q9 := Q8.stp st9
  clear c p0 p1 p2 p3 p4 pf T8 E8 S8 FX8 H8 H9' st9 Q8
  obtain ⟨p0, p1, p2, p3, p4, pf⟩ := box5 E9.1
  go_wp2
  go_end0
  refine ⟨rfl, o9, ?_, T9⟩
  have hT : (wFs e.kids (quS e.n e.nm) 0 s.ent.qent).qlea.lea = v9 := by
    rw [HK.out, wFs_ex, wFs_ex, hv9, hv8, hv7, hv6, hv5, hv4, hv3, hv2, hv1, hv0]
    unfold quS
    rw [hqw2]
    rfl
  rw [hT]
  exact H9
end Go.Proofs.YtafnlhnenmpfoaaGreatDoor
namespace Go.Proofs.YtafnlhnenmpfoaaGreatDoor
open Go.ChangeShapes Go.WideShapes Go.ChangeAt Go.RowKit
set_option linter.unusedVariables false
set_option linter.unusedSimpArgs false

theorem fbool_b (b : Bool) (w : World) : Calls Tryz.prog 132 #[.bool b] w fun e w' => e = .returned (stv (Go.Lib.formatBool b)) ∧ Below w.heap.size w w' := by
  refine (fbool_r b w).mono ?_
  rintro e w' ⟨rfl, rfl⟩
  exact ⟨rfl, Below.refl _ _⟩
set_option maxRecDepth 100000 in
theorem plain1 (n : Int) (nm : List UInt8) (a : Int) (ao : Option Addr) (len cap wb : Nat) (s : St) (w : World) (o : Nat → Nat) (h0 : 0 ≤ n) (h1 : n ≤ 9223372036854775807) (ht : s.t.length ≤ 1000000) (FX : FixW o w) (H : WrS w o wb s) :
    Calls Tryz.prog 106 #[.pointer (some ⟨wb, 0, none⟩), .agg #[.int .i64 1, .int .i64 n, stv nm, .slice ao len cap, .int .i64 a]] w (PostS w o wb (s.lay (Go.Lib.itoa n))) := by
  have st0 := boxStep I12 w o (.cells #[.int .i64 1, .int .i64 n, stv nm, .slice ao len cap, .int .i64 a] 25)
  have E0 := boxBlk w o #[.int .i64 1, .int .i64 n, stv nm, .slice ao len cap, .int .i64 a] 25
  have H0 : WrS _ _ wb s := H.step (boxStep (fun _ => False) w o (.cells #[.int .i64 1, .int .i64 n, stv nm, .slice ao len cap, .int .i64 a] 25)) id id
  have FX0 := FX.stp st0
  go_enter Tryz.func106, Tryz.ntmps106
  go_upto_region 1 with fail
  generalize w.alloc (.cells #[.int .i64 1, .int .i64 n, stv nm, .slice ao len cap, .int .i64 a] 25) = w0 at *
  generalize newLab w o 0 = o0 at *
  generalize w.heap.size = bx at *
  have T0 := st0
  clear st0 H FX
  obtain ⟨p0, p1, p2, p3, p4, pf⟩ := box5 E0.1
  have c := itoa_r n h0 h1 w0 FX0.p
  go_wp2_with fail
  refine c.mono ?_
  rintro x1 w1 ⟨rfl, b1⟩
  
  have st1 : Step I12 w0 o0 w1 o0 := Step.ofB o0 b1
  have H1 : WrS w1 o0 wb (s) := H0.step (Step.ofB (I := fun _ => False) o0 b1) id id
  have T1 := T0.trans st1
  have E1 := E0.stp st1
  have FX1 := FX0.stp st1
  obtain ⟨o1, ho1⟩ : ∃ z, z = o0 := ⟨_, rfl⟩
  rw [← ho1] at H1 T1 E1 FX1
  clear c p0 p1 p2 p3 p4 pf T0 E0 FX0 H0 st1 b1 ho1
  obtain ⟨p0, p1, p2, p3, p4, pf⟩ := box5 E1.1
  have hl1 : (Go.Lib.itoa n : List UInt8).length ≤ 100 := by have := Go.Lib.itoa_length_le n (by omega) h1; omega
  have c := lay_r (Go.Lib.itoa n) H1 (by first | omega | (simp only [St.lay, List.length_append, List.length_cons, List.length_nil]; omega))
  go_wp2_with fail
  refine c.mono ?_
  rintro x2 w2 ⟨rfl, o2, H2', st2⟩
  have H2 : WrS w2 o2 wb ((s).lay (Go.Lib.itoa n)) := H2'
  have T2 := T1.trans st2
  have E2 := E1.stp st2
  have FX2 := FX1.stp st2
  clear c p0 p1 p2 p3 p4 pf T1 E1 FX1 H1 H2' st2
  obtain ⟨p0, p1, p2, p3, p4, pf⟩ := box5 E2.1
  go_wp2
  go_end0
  exact ⟨rfl, o2, H2, T2⟩
set_option maxRecDepth 100000 in
theorem plain3 (n : Int) (nm : List UInt8) (a : Int) (ao : Option Addr) (len cap wb : Nat) (s : St) (w : World) (o : Nat → Nat) (h0 : 0 ≤ n) (h1 : n ≤ 9223372036854775807) (ht : s.t.length ≤ 1000000) (FX : FixW o w) (H : WrS w o wb s) :
    Calls Tryz.prog 106 #[.pointer (some ⟨wb, 0, none⟩), .agg #[.int .i64 3, .int .i64 n, stv nm, .slice ao len cap, .int .i64 a]] w (PostS w o wb ((s.lay [64]).lay (Go.Lib.itoa n))) := by
  have st0 := boxStep I12 w o (.cells #[.int .i64 3, .int .i64 n, stv nm, .slice ao len cap, .int .i64 a] 25)
  have E0 := boxBlk w o #[.int .i64 3, .int .i64 n, stv nm, .slice ao len cap, .int .i64 a] 25
  have H0 : WrS _ _ wb s := H.step (boxStep (fun _ => False) w o (.cells #[.int .i64 3, .int .i64 n, stv nm, .slice ao len cap, .int .i64 a] 25)) id id
  have FX0 := FX.stp st0
  go_enter Tryz.func106, Tryz.ntmps106
  go_upto_region 1 with fail
  generalize w.alloc (.cells #[.int .i64 3, .int .i64 n, stv nm, .slice ao len cap, .int .i64 a] 25) = w0 at *
  generalize newLab w o 0 = o0 at *
  generalize w.heap.size = bx at *
  have T0 := st0
  clear st0 H FX
  obtain ⟨p0, p1, p2, p3, p4, pf⟩ := box5 E0.1
  have hl0 : ([64] : List UInt8).length ≤ 100 := by simp
  have c := lay_r ([64]) H0 (by first | omega | (simp only [St.lay, List.length_append, List.length_cons, List.length_nil]; omega))
  go_wp2_with fail
  refine c.mono ?_
  rintro x1 w1 ⟨rfl, o1, H1', st1⟩
  have H1 : WrS w1 o1 wb ((s).lay ([64])) := H1'
  have T1 := T0.trans st1
  have E1 := E0.stp st1
  have FX1 := FX0.stp st1
  clear c p0 p1 p2 p3 p4 pf T0 E0 FX0 H0 H1' st1
  obtain ⟨p0, p1, p2, p3, p4, pf⟩ := box5 E1.1
  have c := itoa_r n h0 h1 w1 FX1.p
  go_wp2_with fail
  refine c.mono ?_
  rintro x2 w2 ⟨rfl, b2⟩
  
  have st2 : Step I12 w1 o1 w2 o1 := Step.ofB o1 b2
  have H2 : WrS w2 o1 wb ((s).lay ([64])) := H1.step (Step.ofB (I := fun _ => False) o1 b2) id id
  have T2 := T1.trans st2
  have E2 := E1.stp st2
  have FX2 := FX1.stp st2
  obtain ⟨o2, ho2⟩ : ∃ z, z = o1 := ⟨_, rfl⟩
  rw [← ho2] at H2 T2 E2 FX2
  clear c p0 p1 p2 p3 p4 pf T1 E1 FX1 H1 st2 b2 ho2
  obtain ⟨p0, p1, p2, p3, p4, pf⟩ := box5 E2.1
  have hl2 : (Go.Lib.itoa n : List UInt8).length ≤ 100 := by have := Go.Lib.itoa_length_le n (by omega) h1; omega
  have c := lay_r (Go.Lib.itoa n) H2 (by first | omega | (simp only [St.lay, List.length_append, List.length_cons, List.length_nil]; omega))
  go_wp2_with fail
  refine c.mono ?_
  rintro x3 w3 ⟨rfl, o3, H3', st3⟩
  have H3 : WrS w3 o3 wb (((s).lay ([64])).lay (Go.Lib.itoa n)) := H3'
  have T3 := T2.trans st3
  have E3 := E2.stp st3
  have FX3 := FX2.stp st3
  clear c p0 p1 p2 p3 p4 pf T2 E2 FX2 H2 H3' st3
  obtain ⟨p0, p1, p2, p3, p4, pf⟩ := box5 E3.1
  go_wp2
  go_end0
  exact ⟨rfl, o3, H3, T3⟩
set_option maxRecDepth 100000 in
theorem plain2 (n : Int) (nm : List UInt8) (a : Int) (ao : Option Addr) (len cap wb : Nat) (s : St) (w : World) (o : Nat → Nat)  (ht : s.t.length ≤ 1000000) (FX : FixW o w) (H : WrS w o wb s) :
    Calls Tryz.prog 106 #[.pointer (some ⟨wb, 0, none⟩), .agg #[.int .i64 2, .int .i64 n, stv nm, .slice ao len cap, .int .i64 a]] w (PostS w o wb (s.lay (Go.Lib.formatBool (n == 1)))) := by
  have st0 := boxStep I12 w o (.cells #[.int .i64 2, .int .i64 n, stv nm, .slice ao len cap, .int .i64 a] 25)
  have E0 := boxBlk w o #[.int .i64 2, .int .i64 n, stv nm, .slice ao len cap, .int .i64 a] 25
  have H0 : WrS _ _ wb s := H.step (boxStep (fun _ => False) w o (.cells #[.int .i64 2, .int .i64 n, stv nm, .slice ao len cap, .int .i64 a] 25)) id id
  have FX0 := FX.stp st0
  go_enter Tryz.func106, Tryz.ntmps106
  go_upto_region 1 with fail
  generalize w.alloc (.cells #[.int .i64 2, .int .i64 n, stv nm, .slice ao len cap, .int .i64 a] 25) = w0 at *
  generalize newLab w o 0 = o0 at *
  generalize w.heap.size = bx at *
  have T0 := st0
  clear st0 H FX
  obtain ⟨p0, p1, p2, p3, p4, pf⟩ := box5 E0.1
  have c := fbool_b (n == 1) w0
  go_wp2_with fail
  refine c.mono ?_
  rintro x1 w1 ⟨rfl, b1⟩
  
  have st1 : Step I12 w0 o0 w1 o0 := Step.ofB o0 b1
  have H1 : WrS w1 o0 wb (s) := H0.step (Step.ofB (I := fun _ => False) o0 b1) id id
  have T1 := T0.trans st1
  have E1 := E0.stp st1
  have FX1 := FX0.stp st1
  obtain ⟨o1, ho1⟩ : ∃ z, z = o0 := ⟨_, rfl⟩
  rw [← ho1] at H1 T1 E1 FX1
  clear c p0 p1 p2 p3 p4 pf T0 E0 FX0 H0 st1 b1 ho1
  obtain ⟨p0, p1, p2, p3, p4, pf⟩ := box5 E1.1
  have hl1 : (Go.Lib.formatBool (n == 1) : List UInt8).length ≤ 100 := by have := fbool_len (n == 1); omega
  have c := lay_r (Go.Lib.formatBool (n == 1)) H1 (by first | omega | (simp only [St.lay, List.length_append, List.length_cons, List.length_nil]; omega))
  go_wp2_with fail
  refine c.mono ?_
  rintro x2 w2 ⟨rfl, o2, H2', st2⟩
  have H2 : WrS w2 o2 wb ((s).lay (Go.Lib.formatBool (n == 1))) := H2'
  have T2 := T1.trans st2
  have E2 := E1.stp st2
  have FX2 := FX1.stp st2
  clear c p0 p1 p2 p3 p4 pf T1 E1 FX1 H1 H2' st2
  obtain ⟨p0, p1, p2, p3, p4, pf⟩ := box5 E2.1
  go_wp2
  go_end0
  exact ⟨rfl, o2, H2, T2⟩
set_option maxRecDepth 100000 in
theorem plain4 (n : Int) (nm : List UInt8) (a : Int) (ao : Option Addr) (len cap wb : Nat) (s : St) (w : World) (o : Nat → Nat) (hn : nm.length ≤ 12) (ht : s.t.length ≤ 1000000) (FX : FixW o w) (H : WrS w o wb s) :
    Calls Tryz.prog 106 #[.pointer (some ⟨wb, 0, none⟩), .agg #[.int .i64 4, .int .i64 n, stv nm, .slice ao len cap, .int .i64 a]] w (PostS w o wb (s.lay nm)) := by
  have st0 := boxStep I12 w o (.cells #[.int .i64 4, .int .i64 n, stv nm, .slice ao len cap, .int .i64 a] 25)
  have E0 := boxBlk w o #[.int .i64 4, .int .i64 n, stv nm, .slice ao len cap, .int .i64 a] 25
  have H0 : WrS _ _ wb s := H.step (boxStep (fun _ => False) w o (.cells #[.int .i64 4, .int .i64 n, stv nm, .slice ao len cap, .int .i64 a] 25)) id id
  have FX0 := FX.stp st0
  go_enter Tryz.func106, Tryz.ntmps106
  go_upto_region 1 with fail
  generalize w.alloc (.cells #[.int .i64 4, .int .i64 n, stv nm, .slice ao len cap, .int .i64 a] 25) = w0 at *
  generalize newLab w o 0 = o0 at *
  generalize w.heap.size = bx at *
  have T0 := st0
  clear st0 H FX
  obtain ⟨p0, p1, p2, p3, p4, pf⟩ := box5 E0.1
  have hl0 : (nm : List UInt8).length ≤ 100 := by omega
  have c := lay_r (nm) H0 (by first | omega | (simp only [St.lay, List.length_append, List.length_cons, List.length_nil]; omega))
  go_wp2_with fail
  refine c.mono ?_
  rintro x1 w1 ⟨rfl, o1, H1', st1⟩
  have H1 : WrS w1 o1 wb ((s).lay (nm)) := H1'
  have T1 := T0.trans st1
  have E1 := E0.stp st1
  have FX1 := FX0.stp st1
  clear c p0 p1 p2 p3 p4 pf T0 E0 FX0 H0 H1' st1
  obtain ⟨p0, p1, p2, p3, p4, pf⟩ := box5 E1.1
  go_wp2
  go_end0
  exact ⟨rfl, o1, H1, T1⟩
set_option maxRecDepth 100000 in
theorem plain23 (n : Int) (nm : List UInt8) (a : Int) (ao : Option Addr) (len cap wb : Nat) (s : St) (w : World) (o : Nat → Nat) (hn : nm.length ≤ 12) (ht : s.t.length ≤ 1000000) (FX : FixW o w) (H : WrS w o wb s) :
    Calls Tryz.prog 106 #[.pointer (some ⟨wb, 0, none⟩), .agg #[.int .i64 23, .int .i64 n, stv nm, .slice ao len cap, .int .i64 a]] w (PostS w o wb (s.lay nm)) := by
  have st0 := boxStep I12 w o (.cells #[.int .i64 23, .int .i64 n, stv nm, .slice ao len cap, .int .i64 a] 25)
  have E0 := boxBlk w o #[.int .i64 23, .int .i64 n, stv nm, .slice ao len cap, .int .i64 a] 25
  have H0 : WrS _ _ wb s := H.step (boxStep (fun _ => False) w o (.cells #[.int .i64 23, .int .i64 n, stv nm, .slice ao len cap, .int .i64 a] 25)) id id
  have FX0 := FX.stp st0
  go_enter Tryz.func106, Tryz.ntmps106
  go_upto_region 1 with fail
  generalize w.alloc (.cells #[.int .i64 23, .int .i64 n, stv nm, .slice ao len cap, .int .i64 a] 25) = w0 at *
  generalize newLab w o 0 = o0 at *
  generalize w.heap.size = bx at *
  have T0 := st0
  clear st0 H FX
  obtain ⟨p0, p1, p2, p3, p4, pf⟩ := box5 E0.1
  have hl0 : (nm : List UInt8).length ≤ 100 := by omega
  have c := lay_r (nm) H0 (by first | omega | (simp only [St.lay, List.length_append, List.length_cons, List.length_nil]; omega))
  go_wp2_with fail
  refine c.mono ?_
  rintro x1 w1 ⟨rfl, o1, H1', st1⟩
  have H1 : WrS w1 o1 wb ((s).lay (nm)) := H1'
  have T1 := T0.trans st1
  have E1 := E0.stp st1
  have FX1 := FX0.stp st1
  clear c p0 p1 p2 p3 p4 pf T0 E0 FX0 H0 H1' st1
  obtain ⟨p0, p1, p2, p3, p4, pf⟩ := box5 E1.1
  go_wp2
  go_end0
  exact ⟨rfl, o1, H1, T1⟩
set_option maxRecDepth 100000 in
theorem plain22 (n : Int) (nm : List UInt8) (a : Int) (ao : Option Addr) (len cap wb : Nat) (s : St) (w : World) (o : Nat → Nat)  (ht : s.t.length ≤ 1000000) (FX : FixW o w) (H : WrS w o wb s) :
    Calls Tryz.prog 106 #[.pointer (some ⟨wb, 0, none⟩), .agg #[.int .i64 22, .int .i64 n, stv nm, .slice ao len cap, .int .i64 a]] w (PostS w o wb (s.lay [118, 101, 114, 116, 105, 99, 101, 115])) := by
  have st0 := boxStep I12 w o (.cells #[.int .i64 22, .int .i64 n, stv nm, .slice ao len cap, .int .i64 a] 25)
  have E0 := boxBlk w o #[.int .i64 22, .int .i64 n, stv nm, .slice ao len cap, .int .i64 a] 25
  have H0 : WrS _ _ wb s := H.step (boxStep (fun _ => False) w o (.cells #[.int .i64 22, .int .i64 n, stv nm, .slice ao len cap, .int .i64 a] 25)) id id
  have FX0 := FX.stp st0
  go_enter Tryz.func106, Tryz.ntmps106
  go_upto_region 1 with fail
  generalize w.alloc (.cells #[.int .i64 22, .int .i64 n, stv nm, .slice ao len cap, .int .i64 a] 25) = w0 at *
  generalize newLab w o 0 = o0 at *
  generalize w.heap.size = bx at *
  have T0 := st0
  clear st0 H FX
  obtain ⟨p0, p1, p2, p3, p4, pf⟩ := box5 E0.1
  have hl0 : ([118, 101, 114, 116, 105, 99, 101, 115] : List UInt8).length ≤ 100 := by simp
  have c := lay_r ([118, 101, 114, 116, 105, 99, 101, 115]) H0 (by first | omega | (simp only [St.lay, List.length_append, List.length_cons, List.length_nil]; omega))
  go_wp2_with fail
  refine c.mono ?_
  rintro x1 w1 ⟨rfl, o1, H1', st1⟩
  have H1 : WrS w1 o1 wb ((s).lay ([118, 101, 114, 116, 105, 99, 101, 115])) := H1'
  have T1 := T0.trans st1
  have E1 := E0.stp st1
  have FX1 := FX0.stp st1
  clear c p0 p1 p2 p3 p4 pf T0 E0 FX0 H0 H1' st1
  obtain ⟨p0, p1, p2, p3, p4, pf⟩ := box5 E1.1
  go_wp2
  go_end0
  exact ⟨rfl, o1, H1, T1⟩
end Go.Proofs.YtafnlhnenmpfoaaGreatDoor
