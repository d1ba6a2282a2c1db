/- Coming to a vertex. -/
import Derived.Test.YtanahbkkgppfnaaBm
import Derived.BigRegion
import Derived.Deep.CutBlock
import Derived.Deep.DeepCutAuto
namespace Go.Proofs.Ytanahbkkgppfnaa
open Go.ChangeShapes Go.WideShapes Go.ChangeAt Go.RowKit
set_option linter.unusedVariables false

def enterS (s : Dst) (v : Nat) (e : Int) : Dst := { s with ba := put8 s.ba v e, tn := put8 s.tn v (s.turns + 1), lw := put8 s.lw v (s.turns + 1), path := s.path ++ [v], op := s.op ++ [v], turns := s.turns + 1 }
set_option maxRecDepth 100000 in
theorem enter_w (w : World) (o : Nat → Nat) (L p n la : Nat) (es : List EdT) (s : Dst) (v : Nat) (e : Int) (h : Wm w o L p n la es s) (hn : n ≤ 64) (hv : v < n) (ht : s.turns ≤ 64) (hp : s.path.length ≤ 64) (ho : s.op.length ≤ 64) (hla : la < L) (he : -1 ≤ e) (he2 : e < 1000) :
    Calls Try.prog 31 #[.pointer (some ⟨p, 0, none⟩), .int .i64 (v : Nat), .int .i64 e] w fun e' w' => e' = .returned (.tuple #[]) ∧ ∃ o', Wm w' o' L p n la es (enterS s v e) ∧ Step (WL L) w o w' o' := by
  obtain ⟨gp, cp, gb, cb, vp, vo, ve, vr, vs, h1, h2, h3, h4, h5, h6, h7, h8⟩ := h
  obtain ⟨c0, c1, c2, c3, c4, c5, c6, hf⟩ := h1.cells7
  have e1 : (((s.turns + 1 : Nat)) : Int) = (s.turns : Int) + 1 := by omega
  have B1 := h1.set 1 (.int .i64 ((s.turns + 1 : Nat) : Int))
  have s1 := h1.stp2 1 (.int .i64 ((s.turns + 1 : Nat) : Int))
  rw [e1] at B1 s1
  have R1 := h2.step s1 (by omega)
  simp only [List.setIfInBounds_toArray, List.set_cons_succ, List.set_cons_zero] at B1
  go_enter Try.func31, Try.ntmps31
  go_upto_region 1 with fail
  generalize w.setCell ⟨p, 1, none⟩ (.int .i64 ((s.turns : Int) + 1)) = w1 at B1 s1 R1 ⊢
  obtain ⟨d0, d1, d2, d3, d4, d5, d6, df⟩ := B1.cells7
  obtain ⟨g, cap, hv', hg, hc, hm, hlt, hcell, hfr⟩ := R1.pos (by omega)
  simp only [Value.slice.injEq, Option.some.injEq, Addr.mk.injEq, and_true, true_and] at hv'
  obtain ⟨rfl, rfl⟩ := hv'
  obtain ⟨k0, k1, k2, k3⟩ := pl4_get vs (fun x => .int .i64 (s.ba x)) (fun x => .int .i64 (s.tn x : Nat)) (fun x => .int .i64 (s.lw x : Nat)) n v hv
  replace k0 := (hcell (v * 4) (by omega)).trans k0
  replace k1 := (hcell (v * 4 + 1) (by omega)).trans k1
  replace k2 := (hcell (v * 4 + 2) (by omega)).trans k2
  replace k3 := (hcell (v * 4 + 3) (by omega)).trans k3
  have hvI : (v : Int) < (n : Int) := by omega
  have hpg : p ≠ gp := fun e => by have h5 := B1.2; rw [e] at h5; omega
  have hgp : gp ≠ p := hpg.symm
  clear hcell c0 c1 c2 c3 c4 c5 c6 hf
  go_wp2_with fail
  go_region
  have R2 := ((R1.store (v * 4 + 1) (.int .i64 e)).store (v * 4 + 2) (.int .i64 ((s.turns : Int) + 1))).store (v * 4 + 3) (.int .i64 ((s.turns : Int) + 1))
  have s2 : Step (fun k => k = L + 1) w1 o (((w1.setCell ⟨gp, v * 4 + 1, none⟩ (.int .i64 e)).setCell ⟨gp, v * 4 + 2, none⟩ (.int .i64 ((s.turns : Int) + 1))).setCell ⟨gp, v * 4 + 3, none⟩ (.int .i64 ((s.turns : Int) + 1))).drew o :=
    ((((Step.refl _ w1 o).setCell ⟨gp, v * 4 + 1, none⟩ _ hg).setCell ⟨gp, v * 4 + 2, none⟩ _ hg).setCell ⟨gp, v * 4 + 3, none⟩ _ hg).drew
  have el : ((plc vs s n).set (v * 4 + 1) (.int .i64 e) |>.set (v * 4 + 2) (.int .i64 ((s.turns : Int) + 1)) |>.set (v * 4 + 3) (.int .i64 ((s.turns : Int) + 1))) = plc vs (enterS s v e) n := by
    unfold plc
    rw [(pl4_set _ _ _ _ _ n hv).2.1, (pl4_set _ _ _ _ _ n hv).2.2.1, (pl4_set _ _ _ _ _ n hv).2.2.2, put8_map (Value.int .i64) s.ba, ← e1, put8_map (fun x : Nat => Value.int .i64 (x : Int)) s.tn, put8_map (fun x : Nat => Value.int .i64 (x : Int)) s.lw]
    rfl
  rw [el] at R2
  replace R2 : Row (((w1.setCell ⟨gp, v * 4 + 1, none⟩ (.int .i64 e)).setCell ⟨gp, v * 4 + 2, none⟩ (.int .i64 ((s.turns : Int) + 1))).setCell ⟨gp, v * 4 + 3, none⟩ (.int .i64 ((s.turns : Int) + 1))).drew o (L + 1) 66 4 (.slice (some ⟨gp, 0, none⟩) n cp) n (plc vs (enterS s v e) n) := R2
  clear el R1 k0 k1 k2 k3 d0 d1 d2 d3 d4 d5 d6 df
  generalize (((w1.setCell ⟨gp, v * 4 + 1, none⟩ (.int .i64 e)).setCell ⟨gp, v * 4 + 2, none⟩ (.int .i64 ((s.turns : Int) + 1))).setCell ⟨gp, v * 4 + 3, none⟩ (.int .i64 ((s.turns : Int) + 1))).drew = w2 at R2 s2 ⊢
  have B2 := B1.step s2 (by omega)
  obtain ⟨d0, d1, d2, d3, d4, d5, d6, df⟩ := B2.cells7
  obtain ⟨ii, hii, hzi0, hzi1, hzi2⟩ := info_parts infoInt
  have s12 : Step (fun k => k = L ∨ k = L + 1) w o w2 o := (s1.mono fun _ h => .inl h).trans (s2.mono fun _ h => .inr h)
  have P2 := h4.step s12 (by omega)
  go_wp2_with (first | (at_builtin; refine wpList_append_lab rfl (.tmp 42) (.tmp 44) 38 rfl 3 ii (.int .i64 0) 1 8 Try.underlying38 hii hzi0 hzi1 hzi2 rfl (by decide) o (L + 2) vp s.path.length (intsL s.path) rfl (P2.step (allocStep (fun _ => False) _ o _) (by simp)) ⟨w2.heap.size, 0, none⟩ 1 1 [.int .i64 (v : Nat)] rfl rfl ?c1 ?c2 (by decide) ?c3 ?c4 ?_) | go_in)
  case c1 => exact new_one _ _ _
  case c2 => intro u hu; simp at hu; subst hu; rfl
  case c3 => unfold maxLen; omega
  case c4 => omega
  intro g3 cap3 w3 o3 P3 s3'
  have s3 : Step (fun k => k = L + 2) w2 o w3 o3 := (allocStep _ w2 o _).trans s3'
  have B3 := B2.step s3 (by omega)
  obtain ⟨f0, f1, f2, f3, f4, f5, f6, ff⟩ := B3.cells7
  clear s3' P2 d0 d1 d2 d3 d4 d5 d6 df
  go_upto_region 4 with fail
  have B4 := B3.set 2 (.slice (some ⟨g3, 0, none⟩) (s.path.length + 1) cap3)
  have s4 := B3.stp2 2 (.slice (some ⟨g3, 0, none⟩) (s.path.length + 1) cap3)
  have P4 := P3.step s4 (by omega)
  clear f0 f1 f2 f3 f4 f5 f6 ff
  generalize w3.setCell ⟨p, 2, none⟩ (.slice (some ⟨g3, 0, none⟩) (s.path.length + 1) cap3) = w4 at B4 s4 P4 ⊢
  simp only [List.setIfInBounds_toArray, List.set_cons_succ, List.set_cons_zero] at B4
  obtain ⟨f0, f1, f2, f3, f4, f5, f6, ff⟩ := B4.cells7
  have s34 : Step (fun k => k = L + 2 ∨ k = L) w2 o w4 o3 := (s3.mono fun _ h => .inl h).trans (s4.mono fun _ h => .inr h)
  have O4 := (h5.step s12 (by omega)).step s34 (by omega)
  go_wp2_with (first | (at_builtin; refine wpList_append_lab rfl (.tmp 52) (.tmp 54) 38 rfl 3 ii (.int .i64 0) 1 8 Try.underlying38 hii hzi0 hzi1 hzi2 rfl (by decide) o3 (L + 3) vo s.op.length (intsL s.op) rfl (O4.step (allocStep (fun _ => False) _ o3 _) (by simp)) ⟨w4.heap.size, 0, none⟩ 1 1 [.int .i64 (v : Nat)] rfl rfl ?c1 ?c2 (by decide) ?c3 ?c4 ?_) | go_in)
  case c1 => exact new_one _ _ _
  case c2 => intro u hu; simp at hu; subst hu; rfl
  case c3 => unfold maxLen; omega
  case c4 => omega
  intro g5 cap5 w5 o5 O5 s5'
  have s5 : Step (fun k => k = L + 3) w4 o3 w5 o5 := (allocStep _ w4 o3 _).trans s5'
  have B5 := B4.step s5 (by omega)
  obtain ⟨j0, j1, j2, j3, j4, j5, j6, jf⟩ := B5.cells7
  clear s5' O4 f0 f1 f2 f3 f4 f5 f6 ff
  have B6 := B5.set 3 (.slice (some ⟨g5, 0, none⟩) (s.op.length + 1) cap5)
  have s6 := B5.stp2 3 (.slice (some ⟨g5, 0, none⟩) (s.op.length + 1) cap5)
  have O6 := O5.step s6 (by omega)
  simp only [List.setIfInBounds_toArray, List.set_cons_succ, List.set_cons_zero] at B6
  have RES : ∃ o', Wm (w5.setCell ⟨p, 3, none⟩ (.slice (some ⟨g5, 0, none⟩) (s.op.length + 1) cap5)) o' L p n la es (enterS s v e) ∧ Step (WL L) w o (w5.setCell ⟨p, 3, none⟩ (.slice (some ⟨g5, 0, none⟩) (s.op.length + 1) cap5)) o' := by
    have sA : Step (fun k => k = L ∨ k = L + 1 ∨ k = L + 2 ∨ k = L + 3) w o (w5.setCell ⟨p, 3, none⟩ (.slice (some ⟨g5, 0, none⟩) (s.op.length + 1) cap5)) o5 :=
      (((s12.mono fun _ h => by omega).trans (s34.mono fun _ h => by omega)).trans (s5.mono fun _ h => by omega)).trans (s6.mono fun _ h => by omega)
    have s46 : Step (fun k => k = L ∨ k = L + 3) w4 o3 (w5.setCell ⟨p, 3, none⟩ (.slice (some ⟨g5, 0, none⟩) (s.op.length + 1) cap5)) o5 := (s5.mono fun _ h => by omega).trans (s6.mono fun _ h => by omega)
    have s26 : Step (fun k => k = L ∨ k = L + 2 ∨ k = L + 3) w2 o (w5.setCell ⟨p, 3, none⟩ (.slice (some ⟨g5, 0, none⟩) (s.op.length + 1) cap5)) o5 := (s34.mono fun _ h => by omega).trans (s46.mono fun _ h => by omega)
    refine ⟨o5, ⟨gp, cp, gb, cb, .slice (some ⟨g3, 0, none⟩) (s.path.length + 1) cap3, .slice (some ⟨g5, 0, none⟩) (s.op.length + 1) cap5, ve, vr, vs, ?_, R2.step s26 (by omega), fun x hx => (h3 x hx).step sA (by omega), ?_, ?_, h6.step sA (by omega), h7.step sA (by omega), h8.step sA (by omega)⟩, sA.mono fun k hk => ⟨by omega, by omega⟩⟩
    · rw [← e1] at B6; exact B6
    · have := P4.step s46 (by omega)
      show Row _ _ _ _ _ _ (s.path ++ [v]).length (intsL (s.path ++ [v]))
      rw [List.length_append, intsL_append]; exact this
    · show Row _ _ _ _ _ _ (s.op ++ [v]).length (intsL (s.op ++ [v]))
      rw [List.length_append, intsL_append]; exact O6
  clear O5 O6 P4 P3 B1 B2 B3 B4 R2 h1 h2 h3 h4 h5 h6 h7 h8 s1 s2 s12 s34 s5 s6 s3 s4
  go_wp2
  go_end0
  exact ⟨rfl, RES⟩
end Go.Proofs.Ytanahbkkgppfnaa
