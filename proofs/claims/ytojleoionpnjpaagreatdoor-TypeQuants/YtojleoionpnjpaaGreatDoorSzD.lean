/- The writer's operators. -/
import Derived.Test.YtojleoionpnjpaaGreatDoorSzB
import Derived.Deep.RegionHeld3
namespace Go.Proofs.YtojleoionpnjpaaGreatDoor
open Go.ChangeShapes Go.WideShapes Go.ChangeAt Go.RowKit
set_option linter.unusedVariables false
set_option linter.unusedSimpArgs false

theorem fbool_b (b : Bool) (w : World) : Calls Tryz.prog 118 #[.bool b] w fun e w' => e = .returned (stv (Go.Lib.formatBool b)) ∧ Below w.heap.size w w' := by
  refine (fbool_r b w).mono ?_
  rintro e w' ⟨rfl, rfl⟩
  exact ⟨rfl, Below.refl _ _⟩
set_option maxRecDepth 100000 in
theorem plain1 (n : Int) (nm : List UInt8) (a : Int) (ao : Option Addr) (len cap wb : Nat) (s : St) (w : World) (o : Nat → Nat) (h0 : 0 ≤ n) (h1 : n ≤ 9223372036854775807) (ht : s.t.length ≤ 1000000) (FX : FixW o w) (H : WrS w o wb s) :
    Calls Tryz.prog 92 #[.pointer (some ⟨wb, 0, none⟩), .agg #[.int .i64 1, .int .i64 n, stv nm, .slice ao len cap, .int .i64 a]] w (PostS w o wb (s.lay (Go.Lib.itoa n))) := by
  have st0 := boxStep I12 w o (.cells #[.int .i64 1, .int .i64 n, stv nm, .slice ao len cap, .int .i64 a] 25)
  have E0 := boxBlk w o #[.int .i64 1, .int .i64 n, stv nm, .slice ao len cap, .int .i64 a] 25
  have H0 : WrS _ _ wb s := H.step (boxStep (fun _ => False) w o (.cells #[.int .i64 1, .int .i64 n, stv nm, .slice ao len cap, .int .i64 a] 25)) id id
  have FX0 := FX.stp st0
  go_enter Tryz.func92, Tryz.ntmps92
  go_upto_region 1 with fail
  generalize w.alloc (.cells #[.int .i64 1, .int .i64 n, stv nm, .slice ao len cap, .int .i64 a] 25) = w0 at *
  generalize newLab w o 0 = o0 at *
  generalize w.heap.size = bx at *
  have T0 := st0
  clear st0 H FX
  obtain ⟨p0, p1, p2, p3, p4, pf⟩ := box5 E0.1
  have c := itoa_r n h0 h1 w0 FX0.p
  go_wp2_with fail
  refine c.mono ?_
  rintro x1 w1 ⟨rfl, b1⟩
  
  have st1 : Step I12 w0 o0 w1 o0 := Step.ofB o0 b1
  have H1 : WrS w1 o0 wb (s) := H0.step (Step.ofB (I := fun _ => False) o0 b1) id id
  have T1 := T0.trans st1
  have E1 := E0.stp st1
  have FX1 := FX0.stp st1
  obtain ⟨o1, ho1⟩ : ∃ z, z = o0 := ⟨_, rfl⟩
  rw [← ho1] at H1 T1 E1 FX1
  clear c p0 p1 p2 p3 p4 pf T0 E0 FX0 H0 st1 b1 ho1
  obtain ⟨p0, p1, p2, p3, p4, pf⟩ := box5 E1.1
  have hl1 : (Go.Lib.itoa n : List UInt8).length ≤ 100 := by have := Go.Lib.itoa_length_le n (by omega) h1; omega
  have c := lay_r (Go.Lib.itoa n) H1 (by first | omega | (simp only [St.lay, List.length_append, List.length_cons, List.length_nil]; omega))
  go_wp2_with fail
  refine c.mono ?_
  rintro x2 w2 ⟨rfl, o2, H2', st2⟩
  have H2 : WrS w2 o2 wb ((s).lay (Go.Lib.itoa n)) := H2'
  have T2 := T1.trans st2
  have E2 := E1.stp st2
  have FX2 := FX1.stp st2
  clear c p0 p1 p2 p3 p4 pf T1 E1 FX1 H1 H2' st2
  obtain ⟨p0, p1, p2, p3, p4, pf⟩ := box5 E2.1
  go_wp2
  go_end0
  exact ⟨rfl, o2, H2, T2⟩
set_option maxRecDepth 100000 in
theorem plain3 (n : Int) (nm : List UInt8) (a : Int) (ao : Option Addr) (len cap wb : Nat) (s : St) (w : World) (o : Nat → Nat) (h0 : 0 ≤ n) (h1 : n ≤ 9223372036854775807) (ht : s.t.length ≤ 1000000) (FX : FixW o w) (H : WrS w o wb s) :
    Calls Tryz.prog 92 #[.pointer (some ⟨wb, 0, none⟩), .agg #[.int .i64 3, .int .i64 n, stv nm, .slice ao len cap, .int .i64 a]] w (PostS w o wb ((s.lay [64]).lay (Go.Lib.itoa n))) := by
  have st0 := boxStep I12 w o (.cells #[.int .i64 3, .int .i64 n, stv nm, .slice ao len cap, .int .i64 a] 25)
  have E0 := boxBlk w o #[.int .i64 3, .int .i64 n, stv nm, .slice ao len cap, .int .i64 a] 25
  have H0 : WrS _ _ wb s := H.step (boxStep (fun _ => False) w o (.cells #[.int .i64 3, .int .i64 n, stv nm, .slice ao len cap, .int .i64 a] 25)) id id
  have FX0 := FX.stp st0
  go_enter Tryz.func92, Tryz.ntmps92
  go_upto_region 1 with fail
  generalize w.alloc (.cells #[.int .i64 3, .int .i64 n, stv nm, .slice ao len cap, .int .i64 a] 25) = w0 at *
  generalize newLab w o 0 = o0 at *
  generalize w.heap.size = bx at *
  have T0 := st0
  clear st0 H FX
  obtain ⟨p0, p1, p2, p3, p4, pf⟩ := box5 E0.1
  have hl0 : ([64] : List UInt8).length ≤ 100 := by simp
  have c := lay_r ([64]) H0 (by first | omega | (simp only [St.lay, List.length_append, List.length_cons, List.length_nil]; omega))
  go_wp2_with fail
  refine c.mono ?_
  rintro x1 w1 ⟨rfl, o1, H1', st1⟩
  have H1 : WrS w1 o1 wb ((s).lay ([64])) := H1'
  have T1 := T0.trans st1
  have E1 := E0.stp st1
  have FX1 := FX0.stp st1
  clear c p0 p1 p2 p3 p4 pf T0 E0 FX0 H0 H1' st1
  obtain ⟨p0, p1, p2, p3, p4, pf⟩ := box5 E1.1
  have c := itoa_r n h0 h1 w1 FX1.p
  go_wp2_with fail
  refine c.mono ?_
  rintro x2 w2 ⟨rfl, b2⟩
  
  have st2 : Step I12 w1 o1 w2 o1 := Step.ofB o1 b2
  have H2 : WrS w2 o1 wb ((s).lay ([64])) := H1.step (Step.ofB (I := fun _ => False) o1 b2) id id
  have T2 := T1.trans st2
  have E2 := E1.stp st2
  have FX2 := FX1.stp st2
  obtain ⟨o2, ho2⟩ : ∃ z, z = o1 := ⟨_, rfl⟩
  rw [← ho2] at H2 T2 E2 FX2
  clear c p0 p1 p2 p3 p4 pf T1 E1 FX1 H1 st2 b2 ho2
  obtain ⟨p0, p1, p2, p3, p4, pf⟩ := box5 E2.1
  have hl2 : (Go.Lib.itoa n : List UInt8).length ≤ 100 := by have := Go.Lib.itoa_length_le n (by omega) h1; omega
  have c := lay_r (Go.Lib.itoa n) H2 (by first | omega | (simp only [St.lay, List.length_append, List.length_cons, List.length_nil]; omega))
  go_wp2_with fail
  refine c.mono ?_
  rintro x3 w3 ⟨rfl, o3, H3', st3⟩
  have H3 : WrS w3 o3 wb (((s).lay ([64])).lay (Go.Lib.itoa n)) := H3'
  have T3 := T2.trans st3
  have E3 := E2.stp st3
  have FX3 := FX2.stp st3
  clear c p0 p1 p2 p3 p4 pf T2 E2 FX2 H2 H3' st3
  obtain ⟨p0, p1, p2, p3, p4, pf⟩ := box5 E3.1
  go_wp2
  go_end0
  exact ⟨rfl, o3, H3, T3⟩
set_option maxRecDepth 100000 in
theorem plain2 (n : Int) (nm : List UInt8) (a : Int) (ao : Option Addr) (len cap wb : Nat) (s : St) (w : World) (o : Nat → Nat)  (ht : s.t.length ≤ 1000000) (FX : FixW o w) (H : WrS w o wb s) :
    Calls Tryz.prog 92 #[.pointer (some ⟨wb, 0, none⟩), .agg #[.int .i64 2, .int .i64 n, stv nm, .slice ao len cap, .int .i64 a]] w (PostS w o wb (s.lay (Go.Lib.formatBool (n == 1)))) := by
  have st0 := boxStep I12 w o (.cells #[.int .i64 2, .int .i64 n, stv nm, .slice ao len cap, .int .i64 a] 25)
  have E0 := boxBlk w o #[.int .i64 2, .int .i64 n, stv nm, .slice ao len cap, .int .i64 a] 25
  have H0 : WrS _ _ wb s := H.step (boxStep (fun _ => False) w o (.cells #[.int .i64 2, .int .i64 n, stv nm, .slice ao len cap, .int .i64 a] 25)) id id
  have FX0 := FX.stp st0
  go_enter Tryz.func92, Tryz.ntmps92
  go_upto_region 1 with fail
  generalize w.alloc (.cells #[.int .i64 2, .int .i64 n, stv nm, .slice ao len cap, .int .i64 a] 25) = w0 at *
  generalize newLab w o 0 = o0 at *
  generalize w.heap.size = bx at *
  have T0 := st0
  clear st0 H FX
  obtain ⟨p0, p1, p2, p3, p4, pf⟩ := box5 E0.1
  have c := fbool_b (n == 1) w0
  go_wp2_with fail
  refine c.mono ?_
  rintro x1 w1 ⟨rfl, b1⟩
  
  have st1 : Step I12 w0 o0 w1 o0 := Step.ofB o0 b1
  have H1 : WrS w1 o0 wb (s) := H0.step (Step.ofB (I := fun _ => False) o0 b1) id id
  have T1 := T0.trans st1
  have E1 := E0.stp st1
  have FX1 := FX0.stp st1
  obtain ⟨o1, ho1⟩ : ∃ z, z = o0 := ⟨_, rfl⟩
  rw [← ho1] at H1 T1 E1 FX1
  clear c p0 p1 p2 p3 p4 pf T0 E0 FX0 H0 st1 b1 ho1
  obtain ⟨p0, p1, p2, p3, p4, pf⟩ := box5 E1.1
  have hl1 : (Go.Lib.formatBool (n == 1) : List UInt8).length ≤ 100 := by have := fbool_len (n == 1); omega
  have c := lay_r (Go.Lib.formatBool (n == 1)) H1 (by first | omega | (simp only [St.lay, List.length_append, List.length_cons, List.length_nil]; omega))
  go_wp2_with fail
  refine c.mono ?_
  rintro x2 w2 ⟨rfl, o2, H2', st2⟩
  have H2 : WrS w2 o2 wb ((s).lay (Go.Lib.formatBool (n == 1))) := H2'
  have T2 := T1.trans st2
  have E2 := E1.stp st2
  have FX2 := FX1.stp st2
  clear c p0 p1 p2 p3 p4 pf T1 E1 FX1 H1 H2' st2
  obtain ⟨p0, p1, p2, p3, p4, pf⟩ := box5 E2.1
  go_wp2
  go_end0
  exact ⟨rfl, o2, H2, T2⟩
set_option maxRecDepth 100000 in
theorem plain4 (n : Int) (nm : List UInt8) (a : Int) (ao : Option Addr) (len cap wb : Nat) (s : St) (w : World) (o : Nat → Nat) (hn : nm.length ≤ 12) (ht : s.t.length ≤ 1000000) (FX : FixW o w) (H : WrS w o wb s) :
    Calls Tryz.prog 92 #[.pointer (some ⟨wb, 0, none⟩), .agg #[.int .i64 4, .int .i64 n, stv nm, .slice ao len cap, .int .i64 a]] w (PostS w o wb (s.lay nm)) := by
  have st0 := boxStep I12 w o (.cells #[.int .i64 4, .int .i64 n, stv nm, .slice ao len cap, .int .i64 a] 25)
  have E0 := boxBlk w o #[.int .i64 4, .int .i64 n, stv nm, .slice ao len cap, .int .i64 a] 25
  have H0 : WrS _ _ wb s := H.step (boxStep (fun _ => False) w o (.cells #[.int .i64 4, .int .i64 n, stv nm, .slice ao len cap, .int .i64 a] 25)) id id
  have FX0 := FX.stp st0
  go_enter Tryz.func92, Tryz.ntmps92
  go_upto_region 1 with fail
  generalize w.alloc (.cells #[.int .i64 4, .int .i64 n, stv nm, .slice ao len cap, .int .i64 a] 25) = w0 at *
  generalize newLab w o 0 = o0 at *
  generalize w.heap.size = bx at *
  have T0 := st0
  clear st0 H FX
  obtain ⟨p0, p1, p2, p3, p4, pf⟩ := box5 E0.1
  have hl0 : (nm : List UInt8).length ≤ 100 := by omega
  have c := lay_r (nm) H0 (by first | omega | (simp only [St.lay, List.length_append, List.length_cons, List.length_nil]; omega))
  go_wp2_with fail
  refine c.mono ?_
  rintro x1 w1 ⟨rfl, o1, H1', st1⟩
  have H1 : WrS w1 o1 wb ((s).lay (nm)) := H1'
  have T1 := T0.trans st1
  have E1 := E0.stp st1
  have FX1 := FX0.stp st1
  clear c p0 p1 p2 p3 p4 pf T0 E0 FX0 H0 H1' st1
  obtain ⟨p0, p1, p2, p3, p4, pf⟩ := box5 E1.1
  go_wp2
  go_end0
  exact ⟨rfl, o1, H1, T1⟩
set_option maxRecDepth 100000 in
theorem plain23 (n : Int) (nm : List UInt8) (a : Int) (ao : Option Addr) (len cap wb : Nat) (s : St) (w : World) (o : Nat → Nat) (hn : nm.length ≤ 12) (ht : s.t.length ≤ 1000000) (FX : FixW o w) (H : WrS w o wb s) :
    Calls Tryz.prog 92 #[.pointer (some ⟨wb, 0, none⟩), .agg #[.int .i64 23, .int .i64 n, stv nm, .slice ao len cap, .int .i64 a]] w (PostS w o wb (s.lay nm)) := by
  have st0 := boxStep I12 w o (.cells #[.int .i64 23, .int .i64 n, stv nm, .slice ao len cap, .int .i64 a] 25)
  have E0 := boxBlk w o #[.int .i64 23, .int .i64 n, stv nm, .slice ao len cap, .int .i64 a] 25
  have H0 : WrS _ _ wb s := H.step (boxStep (fun _ => False) w o (.cells #[.int .i64 23, .int .i64 n, stv nm, .slice ao len cap, .int .i64 a] 25)) id id
  have FX0 := FX.stp st0
  go_enter Tryz.func92, Tryz.ntmps92
  go_upto_region 1 with fail
  generalize w.alloc (.cells #[.int .i64 23, .int .i64 n, stv nm, .slice ao len cap, .int .i64 a] 25) = w0 at *
  generalize newLab w o 0 = o0 at *
  generalize w.heap.size = bx at *
  have T0 := st0
  clear st0 H FX
  obtain ⟨p0, p1, p2, p3, p4, pf⟩ := box5 E0.1
  have hl0 : (nm : List UInt8).length ≤ 100 := by omega
  have c := lay_r (nm) H0 (by first | omega | (simp only [St.lay, List.length_append, List.length_cons, List.length_nil]; omega))
  go_wp2_with fail
  refine c.mono ?_
  rintro x1 w1 ⟨rfl, o1, H1', st1⟩
  have H1 : WrS w1 o1 wb ((s).lay (nm)) := H1'
  have T1 := T0.trans st1
  have E1 := E0.stp st1
  have FX1 := FX0.stp st1
  clear c p0 p1 p2 p3 p4 pf T0 E0 FX0 H0 H1' st1
  obtain ⟨p0, p1, p2, p3, p4, pf⟩ := box5 E1.1
  go_wp2
  go_end0
  exact ⟨rfl, o1, H1, T1⟩
set_option maxRecDepth 100000 in
theorem plain22 (n : Int) (nm : List UInt8) (a : Int) (ao : Option Addr) (len cap wb : Nat) (s : St) (w : World) (o : Nat → Nat)  (ht : s.t.length ≤ 1000000) (FX : FixW o w) (H : WrS w o wb s) :
    Calls Tryz.prog 92 #[.pointer (some ⟨wb, 0, none⟩), .agg #[.int .i64 22, .int .i64 n, stv nm, .slice ao len cap, .int .i64 a]] w (PostS w o wb (s.lay [118, 101, 114, 116, 105, 99, 101, 115])) := by
  have st0 := boxStep I12 w o (.cells #[.int .i64 22, .int .i64 n, stv nm, .slice ao len cap, .int .i64 a] 25)
  have E0 := boxBlk w o #[.int .i64 22, .int .i64 n, stv nm, .slice ao len cap, .int .i64 a] 25
  have H0 : WrS _ _ wb s := H.step (boxStep (fun _ => False) w o (.cells #[.int .i64 22, .int .i64 n, stv nm, .slice ao len cap, .int .i64 a] 25)) id id
  have FX0 := FX.stp st0
  go_enter Tryz.func92, Tryz.ntmps92
  go_upto_region 1 with fail
  generalize w.alloc (.cells #[.int .i64 22, .int .i64 n, stv nm, .slice ao len cap, .int .i64 a] 25) = w0 at *
  generalize newLab w o 0 = o0 at *
  generalize w.heap.size = bx at *
  have T0 := st0
  clear st0 H FX
  obtain ⟨p0, p1, p2, p3, p4, pf⟩ := box5 E0.1
  have hl0 : ([118, 101, 114, 116, 105, 99, 101, 115] : List UInt8).length ≤ 100 := by simp
  have c := lay_r ([118, 101, 114, 116, 105, 99, 101, 115]) H0 (by first | omega | (simp only [St.lay, List.length_append, List.length_cons, List.length_nil]; omega))
  go_wp2_with fail
  refine c.mono ?_
  rintro x1 w1 ⟨rfl, o1, H1', st1⟩
  have H1 : WrS w1 o1 wb ((s).lay ([118, 101, 114, 116, 105, 99, 101, 115])) := H1'
  have T1 := T0.trans st1
  have E1 := E0.stp st1
  have FX1 := FX0.stp st1
  clear c p0 p1 p2 p3 p4 pf T0 E0 FX0 H0 H1' st1
  obtain ⟨p0, p1, p2, p3, p4, pf⟩ := box5 E1.1
  go_wp2
  go_end0
  exact ⟨rfl, o1, H1, T1⟩
end Go.Proofs.YtojleoionpnjpaaGreatDoor
namespace Go.Proofs.YtojleoionpnjpaaGreatDoor
open Go.ChangeShapes Go.WideShapes Go.ChangeAt Go.RowKit
set_option linter.unusedVariables false
set_option linter.unusedSimpArgs false

theorem lay_nil (s : St) : s.lay [] = s := by simp [St.lay]
theorem stepDrew (I : Nat → Prop) (w : World) (o : Nat → Nat) : Step I w o w.drew o := (Step.refl I w o).drew
set_option maxRecDepth 100000 in
set_option maxHeartbeats 4000000 in
theorem op_w {N : Nat} (IH : PartOk N) (e x0 x1 : Ex) (ao : Option Addr) (cap wb : Nat) (s : St) (w : World) (o : Nat → Nat) (hk : e.kids = Fs.ex x0 (Fs.ex x1 .nil)) (hN : e.kids.size ≤ N) (he : e.kids.okA) (n1 : e.k ≠ 1) (n2 : e.k ≠ 2) (n3 : e.k ≠ 3) (n4 : e.k ≠ 4) (n22 : e.k ≠ 22) (n23 : e.k ≠ 23) (qx : List UInt8 × Nat × Nat × Nat × Nat) (hq : opOf e.k = some qx) (F : Fit1 e.kids.size s) (FX : FixW o w) (S : Sl w (L0 o) e.kids ao) (H : WrS w o wb s) :
    Calls Tryz.prog 92 #[.pointer (some ⟨wb, 0, none⟩), exV e ao cap] w (PostS w o wb (wFs e.kids (opS e.k) 0 s)) := by
  have hx := he
  rw [hk] at hx
  obtain ⟨hx0, hx⟩ := okA_ex hx
  obtain ⟨hx1, -⟩ := okA_ex hx
  have hz : e.kids.size = x0.kids.size + (x1.kids.size + 0 + 1) + 1 := by rw [hk]; rfl
  have hlen : e.kids.len = 2 := by rw [hk]; rfl
  have HK : Hid (e.kids = Fs.ex x0 (Fs.ex x1 .nil)) := hk
  obtain ⟨bb, bf, -, -, rfl, -⟩ := Sl.kidP (x := .nil) (by rw [hk] at S; exact S) 0 rfl
  have hq8 : qx.1.length ≤ 3 ∧ qx.2.2.2.1 ≤ 8 ∧ qx.2.2.2.2 ≤ 8 := by
    have hm := List.mem_of_find?_eq_some hq
    have : ∀ x ∈ opsL, x.1.length ≤ 3 ∧ x.2.2.2.1 ≤ 8 ∧ x.2.2.2.2 ≤ 8 := by decide
    exact this qx hm
  have m1 := bne n1
  have m2 := bne n2
  have m3 := bne n3
  have m4 := bne n4
  have m22 := bne n22
  have m23 := bne n23
  clear hk hx n1 n2 n3 n4 n22 n23
  have st0 := boxStep I12 w o (.cells #[.int .i64 e.k, .int .i64 e.n, stv e.nm, .slice (some ⟨bb, bf, none⟩) 2 cap, .int .i64 e.a] 25)
  have E0 := boxBlk w o #[.int .i64 e.k, .int .i64 e.n, stv e.nm, .slice (some ⟨bb, bf, none⟩) 2 cap, .int .i64 e.a] 25
  have H0 : WrS _ _ wb s := H.step (boxStep (fun _ => False) w o (.cells #[.int .i64 e.k, .int .i64 e.n, stv e.nm, .slice (some ⟨bb, bf, none⟩) 2 cap, .int .i64 e.a] 25)) id id
  have S0 := S.stp st0
  have FX0 := FX.stp st0
  rw [exV_out, hlen]
  clear hlen
  go_enter Tryz.func92, Tryz.ntmps92
  go_upto_region 1 with fail
  generalize w.alloc (.cells #[.int .i64 e.k, .int .i64 e.n, stv e.nm, .slice (some ⟨bb, bf, none⟩) 2 cap, .int .i64 e.a] 25) = w0 at *
  generalize newLab w o 0 = o0 at *
  generalize w.heap.size = bx at *
  have T0 := st0
  clear st0 H S FX
  obtain ⟨v0, hv0⟩ : ∃ z, z = s := ⟨_, rfl⟩
  rw [← hv0] at H0
  obtain ⟨p0, p1, p2, p3, p4, pf⟩ := box5 E0.1
  have c := opOf_r e.k w0 FX0.op
  go_wp2_with fail
  refine c.mono ?_
  rintro y1 w0a ⟨rfl, b1⟩
  have st1 : Step I12 w0 o0 w0a o0 := Step.ofB o0 b1
  have H0a : WrS w0a o0 wb v0 := H0.step (Step.ofB (I := fun _ => False) o0 b1) id id
  have T0a := T0.trans st1
  have E0a := E0.stp st1
  have S0a := S0.stp st1
  have FX0a := FX0.stp st1
  clear c p0 p1 p2 p3 p4 pf T0 E0 S0 FX0 H0 st1 b1
  obtain ⟨p0, p1, p2, p3, p4, pf⟩ := box5 E0a.1
  have hq2 : opsL.find? (fun x => (x.2.1 : Int) == e.k) = some qx := hq
  rw [hq2]
  simp only [opF]
  go_upto_region 3 with fail
  have st2 := boxStep I12 w0a o0 (.cells #[stv qx.1, .int .i64 (qx.2.1 : Nat), .int .i64 (qx.2.2.1 : Nat), .int .i64 (qx.2.2.2.1 : Nat), .int .i64 (qx.2.2.2.2 : Nat)] 132)
  have Q1 := boxBlk w0a o0 #[stv qx.1, .int .i64 (qx.2.1 : Nat), .int .i64 (qx.2.2.1 : Nat), .int .i64 (qx.2.2.2.1 : Nat), .int .i64 (qx.2.2.2.2 : Nat)] 132
  have H1 : WrS _ _ wb v0 := H0a.step (boxStep (fun _ => False) w0a o0 (.cells #[stv qx.1, .int .i64 (qx.2.1 : Nat), .int .i64 (qx.2.2.1 : Nat), .int .i64 (qx.2.2.2.1 : Nat), .int .i64 (qx.2.2.2.2 : Nat)] 132)) id id
  have T1 := T0a.trans st2
  have E1 := E0a.stp st2
  have S1 := S0a.stp st2
  have FX1 := FX0a.stp st2
  clear p0 p1 p2 p3 p4 pf T0a E0a S0a FX0a H0a st2
  generalize w0a.alloc (.cells #[stv qx.1, .int .i64 (qx.2.1 : Nat), .int .i64 (qx.2.2.1 : Nat), .int .i64 (qx.2.2.2.1 : Nat), .int .i64 (qx.2.2.2.2 : Nat)] 132) = w1 at *
  generalize newLab w0a o0 0 = o1 at *
  generalize w0a.heap.size = qb at *
  obtain ⟨v1, hv1⟩ : ∃ z, z = v0 := ⟨_, rfl⟩
  rw [← hv1] at H1
  obtain ⟨p0, p1, p2, p3, p4, pf⟩ := box5 E1.1
  have U : Fit e.kids.size v1 := by
    rw [hv1, hv0]
    exact F.low
  have G1 : Gr 0 0 0 v1 v1 := Gr.refl _
  obtain ⟨b1, off1, ak1, ck1, ho1, q0, q1, q2, q3, q4, SK⟩ := Sl.kidP (x := Fs.nil) (y := x0) (by rw [HK.out] at S1; exact S1) 0 rfl
  obtain ⟨rfl, rfl⟩ := addr_inj ho1
  clear ho1
  simp only [Nat.reduceMul, Nat.add_zero] at q0 q1 q2 q3 q4
  have sd := stepDrew I12 w1 o1
  have hc1 := IH x0 ak1 ck1 (qx.2.2.2.1) wb v1 w1.drew o1 (by omega) hx0 (by omega) (U.gr G1 (by omega) (by omega) (by omega) (by omega) (by omega)) (FX1.stp sd) (SK.stp sd) (H1.step (stepDrew (fun _ => False) w1 o1) id id)
  rw [exV_out] at hc1
  have hg1 := Ex.gr hx0 (qx.2.2.2.1) v1
  obtain ⟨v2, hv2⟩ : ∃ z, z = wEx x0 (qx.2.2.2.1) v1 := ⟨_, rfl⟩
  obtain ⟨r0, r1, r2, r3, r4, rf⟩ := box5 Q1.1
  go_region_with (go_at_call 51; refine hc1.mono ?_; rintro x2 w2 ⟨rfl, o2, H2', st2⟩)
  all_goals
    have H2 : WrS w2 o2 wb v2 := by rw [hv2]; exact H2'
    have T2 := (T1.trans sd).trans st2
    have E2 := (E1.stp sd).stp st2
    have Q2 := (Q1.stp sd).stp st2
    have S2 := (S1.stp sd).stp st2
    have FX2 := (FX1.stp sd).stp st2
    have G2 := G1.trans hg1
    rw [← hv2] at G2
    clear p0 p1 p2 p3 p4 pf r0 r1 r2 r3 r4 rf T1 E1 Q1 S1 FX1 H1 H2' st2 sd G1 hg1 hc1 q0 q1 q2 q3 q4 SK
    obtain ⟨p0, p1, p2, p3, p4, pf⟩ := box5 E2.1
    obtain ⟨r0, r1, r2, r3, r4, rf⟩ := box5 Q2.1
    have hl2 : ([32] ++ qx.1 ++ [32] : List UInt8).length ≤ 22 := by simp only [List.length_append, List.length_cons, List.length_nil]; omega
    have hf2 := (U.gr (D' := 0) G2 (by omega) (by omega) (by omega) (by omega) (by omega)).t
    have c := lay_r ([32] ++ qx.1 ++ [32]) H2 (by omega)
    obtain ⟨v3, hv3⟩ : ∃ z, z = v2.lay ([32] ++ qx.1 ++ [32]) := ⟨_, rfl⟩
    go_wp2_with fail
    refine c.mono ?_
    rintro x3 w3 ⟨rfl, o3, H3', st3⟩
    have H3 : WrS w3 o3 wb v3 := by rw [hv3]; exact H3'
    have T3 := T2.trans st3
    have E3 := E2.stp st3
    have S3 := S2.stp st3
    have FX3 := FX2.stp st3
    have Q3 := Q2.stp st3
    clear c p0 p1 p2 p3 p4 pf T2 E2 S2 FX2 H2 H3' st3 Q2
    obtain ⟨p0, p1, p2, p3, p4, pf⟩ := box5 E3.1
    have G3 := G2.lay ([32] ++ qx.1 ++ [32]) (Nat.add_le_add_left hl2 _)
    rw [← hv3] at G3
    clear G2 hl2 hf2
    clear r0 r1 r2 r3 r4 rf
    go_upto_region 5 with fail
    obtain ⟨b3, off3, ak3, ck3, ho3, q0, q1, q2, q3, q4, SK⟩ := Sl.kidP (x := (Fs.ex x0 Fs.nil)) (y := x1) (by rw [HK.out] at S3; exact S3) 1 rfl
    obtain ⟨rfl, rfl⟩ := addr_inj ho3
    clear ho3
    simp only [Nat.reduceMul, Nat.add_zero] at q0 q1 q2 q3 q4
    have sd := stepDrew I12 w3 o3
    have hc3 := IH x1 ak3 ck3 (qx.2.2.2.2) wb v3 w3.drew o3 (by omega) hx1 (by omega) (U.gr G3 (by omega) (by omega) (by omega) (by omega) (by omega)) (FX3.stp sd) (SK.stp sd) (H3.step (stepDrew (fun _ => False) w3 o3) id id)
    rw [exV_out] at hc3
    have hg3 := Ex.gr hx1 (qx.2.2.2.2) v3
    obtain ⟨v4, hv4⟩ : ∃ z, z = wEx x1 (qx.2.2.2.2) v3 := ⟨_, rfl⟩
    obtain ⟨r0, r1, r2, r3, r4, rf⟩ := box5 Q3.1
    go_region_with (go_at_call 51; refine hc3.mono ?_; rintro x4 w4 ⟨rfl, o4, H4', st4⟩)
    all_goals
      have H4 : WrS w4 o4 wb v4 := by rw [hv4]; exact H4'
      have T4 := (T3.trans sd).trans st4
      have E4 := (E3.stp sd).stp st4
      have Q4 := (Q3.stp sd).stp st4
      have S4 := (S3.stp sd).stp st4
      have FX4 := (FX3.stp sd).stp st4
      have G4 := G3.trans hg3
      rw [← hv4] at G4
      clear p0 p1 p2 p3 p4 pf r0 r1 r2 r3 r4 rf T3 E3 Q3 S3 FX3 H3 H4' st4 sd G3 hg3 hc3 q0 q1 q2 q3 q4 SK
      obtain ⟨p0, p1, p2, p3, p4, pf⟩ := box5 E4.1
      go_wp2
      go_end0
      refine ⟨rfl, o4, ?_, T4⟩
      have hT : wFs e.kids (opS e.k) 0 s = v4 := by
        have u0 : opS e.k 0 = ([], qx.2.2.2.1) := by unfold opS; rw [hq]; rfl
        have u1 : opS e.k (0 + 1) = ([32] ++ qx.1 ++ [32], qx.2.2.2.2) := by unfold opS; rw [hq]; rfl
        rw [HK.out, wFs_ex, wFs_ex, u0, u1]
        show wEx x1 _ ((wEx x0 _ (s.lay [])).lay _) = _
        rw [lay_nil, hv4, hv3, hv2, hv1, hv0]
      rw [hT]
      exact H4
end Go.Proofs.YtojleoionpnjpaaGreatDoor
