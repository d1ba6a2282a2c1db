/- Going back. -/
import Derived.Test.YtanahbkkgppfnaaShut
namespace Go.Proofs.Ytanahbkkgppfnaa
open Go.ChangeShapes Go.WideShapes Go.ChangeAt Go.RowKit
set_option linter.unusedVariables false

/-- Going back, at first: the copy of a place, the way cut. -/
theorem Wk.cutPath {w : World} {o : Nat → Nat} {L p n la : Nat} {es : List EdT} {s : Dst} {gp cp gb cb g c : Nat} {vo ve vr : Value} {vs : Nat → Value} {ps : List Nat} {v : Nat} (hp : s.path = ps ++ [v]) (hn : n ≤ 64) (hla : la < L) (h : Wk w o L p n la es s gp cp gb cb (.slice (some ⟨g, 0, none⟩) (ps.length + 1) c) vo ve vr vs) :
    Wk (w.setCell ⟨p, 2, none⟩ (.slice (some ⟨g, 0, none⟩) ps.length c)) o L p n la es { s with path := ps } gp cp gb cb (.slice (some ⟨g, 0, none⟩) ps.length c) vo ve vr vs ∧ Step (fun k => k = L) w o (w.setCell ⟨p, 2, none⟩ (.slice (some ⟨g, 0, none⟩) ps.length c)) o := by
  obtain ⟨h1, h2, h3, h4, h5, h6, h7, h8⟩ := h
  have s9 := h1.stp2 2 (.slice (some ⟨g, 0, none⟩) ps.length c)
  refine ⟨⟨?_, h2.step s9 (by omega), fun x hx => (h3 x hx).step s9 (by omega), ?_, h5.step s9 (by omega), h6.step s9 (by omega), h7.step s9 (by omega), h8.step s9 (by omega)⟩, s9⟩
  · have := h1.set 2 (.slice (some ⟨g, 0, none⟩) ps.length c)
    simp only [List.setIfInBounds_toArray, List.set_cons_succ, List.set_cons_zero] at this
    exact this
  · have hl : s.path.length = ps.length + 1 := by rw [hp]; simp
    rw [hl] at h4
    have := (h4.cut ps.length (by omega)).step s9 (by omega)
    rw [hp, intsL_append, Nat.mul_one, List.take_append_of_le_length (by rw [intsL_len]; omega), List.take_of_length_le (by rw [intsL_len]; omega)] at this
    exact this
set_option maxRecDepth 100000 in
theorem leave_low (w : World) (o : Nat → Nat) (L p n la : Nat) (es : List EdT) (s : Dst) (ps0 ps : List Nat) (v b : Nat) (h : Wm w o L p n la es s) (hn : n ≤ 64) (hv : v < n) (hb : b < n) (hbv : b ≠ v) (hp : s.path = ps ++ [v]) (hpb : ps = ps0 ++ [b]) (hpl : s.path.length ≤ 64) (hla : la < L) (hlow : s.lw v < s.tn v) (hlw : s.lw v ≤ 64) (hlb : s.lw b ≤ 64) (htn : s.tn v ≤ 64) (sf : Dst) (HS : Hid (sf = { s with path := ps, lw := put8 s.lw b (min (s.lw b) (s.lw v)) })) :
    Calls Try.prog 33 #[.pointer (some ⟨p, 0, none⟩)] w fun e' w' => e' = .returned (.tuple #[]) ∧ ∃ o', Wm w' o' L p n la es sf ∧ Step (WL L) w o w' o' := by
  have HB : Hid (ps = ps0 ++ [b]) := hpb
  clear hpb
  have hl : s.path.length = ps.length + 1 := by rw [hp]; simp
  have hh := here_w w o L p n la es s ps v h hp (by omega)
  obtain ⟨gp, cp, gb, cb, vp, vo, ve, vr, vs, hk⟩ := h
  have HK : Hid (Wk w o L p n la es s gp cp gb cb vp vo ve vr vs) := hk
  have HP : Hid (s.path = ps ++ [v]) := hp
  have HL : Hid (s.path.length = ps.length + 1) := hl
  have hps : ps.length ≤ 64 := by omega
  clear hk hp hl hpl
  go_enter Try.func33, Try.ntmps33
  go_wp2_with fail
  refine hh.mono ?_
  rintro e w0 ⟨rfl, m0, rfl⟩
  have h : Wk (w.drewN m0) o L p n la es s gp cp gb cb vp vo ve vr vs := HK.out
  have sw : Step (fun _ => False) w o (w.drewN m0) o := drewStep _ w o m0
  clear HK hh
  generalize w.drewN m0 = w0 at h sw ⊢
  obtain ⟨h1, h2, h3, h4, h5, h6, h7, h8⟩ := h
  rw [HL.out] at h4
  obtain ⟨g4, c4, rfl, hg4, hc4, hm4, hlt4, _, hf4⟩ := h4.pos (by omega)
  have h4' : Row w0 o (L + 2) 3 1 (.slice (some ⟨g4, 0, none⟩) (ps.length + 1) c4) s.path.length (intsL s.path) := by rw [HL.out]; exact h4
  obtain ⟨c0, c1, c2, c3, c4', c5, c6, hf⟩ := h1.cells7
  obtain ⟨g, cap, hv', hg, hc, hm, hlt, hcell, hfr⟩ := h2.pos (by omega)
  simp only [Value.slice.injEq, Option.some.injEq, Addr.mk.injEq, and_true, true_and] at hv'
  obtain ⟨rfl, rfl⟩ := hv'
  obtain ⟨k0, k1, k2, k3⟩ := pl4_get vs (fun x => .int .i64 (s.ba x)) (fun x => .int .i64 (s.tn x : Nat)) (fun x => .int .i64 (s.lw x : Nat)) n v hv
  replace k0 := (hcell (v * 4) (by omega)).trans k0
  replace k1 := (hcell (v * 4 + 1) (by omega)).trans k1
  replace k2 := (hcell (v * 4 + 2) (by omega)).trans k2
  replace k3 := (hcell (v * 4 + 3) (by omega)).trans k3
  have hvI : (v : Int) < (n : Int) := by omega
  have z00 : Blk (w0.alloc (.cells #[.slice none 0 0, .int .i64 0, .int .i64 0, .int .i64 0] 66)) (newLab w0 o (L + 7)) (L + 7) w0.heap.size (.cells #[.slice none 0 0, .int .i64 0, .int .i64 0, .int .i64 0] 66 (0, 0)) := ⟨heap_alloc_new w0 _, newLab_new (Nat.le_refl _)⟩
  obtain ⟨a0, a1, a2, a3, af⟩ := z00.cells4
  have s0 := newStep (fun _ => False) w0 o (L + 7) (.cells #[vs v, .int .i64 (s.ba v), .int .i64 (s.tn v : Nat), .int .i64 (s.lw v : Nat)] 66)
  have A0 : Blk (w0.alloc (.cells #[vs v, .int .i64 (s.ba v), .int .i64 (s.tn v : Nat), .int .i64 (s.lw v : Nat)] 66)) (newLab w0 o (L + 7)) (L + 7) w0.heap.size (.cells #[vs v, .int .i64 (s.ba v), .int .i64 (s.tn v : Nat), .int .i64 (s.lw v : Nat)] 66 (0, 0)) := ⟨heap_alloc_new w0 _, newLab_new (Nat.le_refl _)⟩
  have K1 : Wk (w0.alloc (.cells #[vs v, .int .i64 (s.ba v), .int .i64 (s.tn v : Nat), .int .i64 (s.lw v : Nat)] 66)) (newLab w0 o (L + 7)) L p n la es s gp cp gb cb (.slice (some ⟨g4, 0, none⟩) (ps.length + 1) c4) vo ve vr vs := Wk.step hn ⟨h1, h2, h3, h4', h5, h6, h7, h8⟩ s0 (fun _ _ => id) id
  have KK : Hid (Wk (w0.alloc (.cells #[vs v, .int .i64 (s.ba v), .int .i64 (s.tn v : Nat), .int .i64 (s.lw v : Nat)] 66)) (newLab w0 o (L + 7)) L p n la es s gp cp gb cb (.slice (some ⟨g4, 0, none⟩) (ps.length + 1) c4) vo ve vr vs) := K1
  have S1 : Hid (Step (fun _ => False) w o (w0.alloc (.cells #[vs v, .int .i64 (s.ba v), .int .i64 (s.tn v : Nat), .int .i64 (s.lw v : Nat)] 66)) (newLab w0 o (L + 7))) := sw.trans s0
  obtain ⟨ao, ca, hvs, q1, q2, _⟩ := h3 v hv
  rw [hvs] at k0 A0 KK S1
  unfold maxLen at hm4
  clear h1 h2 h3 h4 h4' h5 h6 h7 h8 hcell z00 K1 s0 sw
  go_upto_region 2 with fail
  clear a0 a1 a2 a3 af c0 c1 c2 c3 c4' c5 c6 hf k0 k1 k2 k3 hg hc hm hlt hfr hg4 hlt4 hf4 hvs q1 q2
  obtain ⟨b0, hb0⟩ : ∃ b0, b0 = w0.heap.size := ⟨_, rfl⟩
  rw [← hb0] at A0 ⊢
  generalize w0.alloc (.cells #[.slice ao (s.st v).length ca, .int .i64 (s.ba v), .int .i64 (s.tn v : Nat), .int .i64 (s.lw v : Nat)] 66) = w1 at A0 KK S1 ⊢
  generalize newLab w0 o (L + 7) = o1 at A0 KK S1
  clear hb0
  replace KK := KK.out
  obtain ⟨KC, sC⟩ := KK.cutPath HP.out hn hla
  obtain ⟨c0, c1, c2, c3, c4', c5, c6, hf⟩ := KK.1.cells7
  have AC := A0.step sC (by omega)
  have HKC : Hid (Wk (w1.setCell ⟨p, 2, none⟩ (.slice (some ⟨g4, 0, none⟩) ps.length c4)) o1 L p n la es { s with path := ps } gp cp gb cb (.slice (some ⟨g4, 0, none⟩) ps.length c4) vo ve vr vs) := KC
  have SC : Hid (Step (WL L) w o (w1.setCell ⟨p, 2, none⟩ (.slice (some ⟨g4, 0, none⟩) ps.length c4)) o1) := (S1.out.mono fun _ h => h.elim).trans (sC.mono fun _ h => ⟨by omega, by omega⟩)
  have HAC : Hid (Blk (w1.setCell ⟨p, 2, none⟩ (.slice (some ⟨g4, 0, none⟩) ps.length c4)) o1 (L + 7) b0 (.cells #[.slice ao (s.st v).length ca, .int .i64 (s.ba v), .int .i64 (s.tn v : Nat), .int .i64 (s.lw v : Nat)] 66 (0, 0))) := AC
  clear KC KK sC AC A0 S1
  go_wp2_with fail
  go_region
  clear c0 c1 c2 c3 c4' c5 c6 hf
  generalize (w1.setCell ⟨p, 2, none⟩ (.slice (some ⟨g4, 0, none⟩) ps.length c4)) = w2 at HKC SC HAC ⊢
  have KD : Wk w2.drew o1 L p n la es { s with path := ps } gp cp gb cb (.slice (some ⟨g4, 0, none⟩) ps.length c4) vo ve vr vs := HKC.out
  have SD : Step (WL L) w o w2.drew o1 := SC.out.drew
  have AD : Blk w2.drew o1 (L + 7) b0 (.cells #[.slice ao (s.st v).length ca, .int .i64 (s.ba v), .int .i64 (s.tn v : Nat), .int .i64 (s.lw v : Nat)] 66 (0, 0)) := HAC.out
  clear HKC SC HAC
  generalize w2.drew = w3 at KD SD AD ⊢
  obtain ⟨a0, a1, a2, a3, af⟩ := AD.cells4
  have hp0 : ps0.length ≤ 64 := by have := HB.out; have h2 : ps.length = ps0.length + 1 := (by rw [this]; simp); omega
  have hh := fun wx hx => here_w wx o1 L p n la es { s with path := ps } ps0 b hx HB.out hp0
  have hw3 : Wm w3 o1 L p n la es { s with path := ps } := ⟨gp, cp, gb, cb, _, vo, ve, vr, vs, KD⟩
  have hlI : (s.lw v : Int) < (s.tn v : Int) := by omega
  have HD : Hid (Wk w3 o1 L p n la es { s with path := ps } gp cp gb cb (.slice (some ⟨g4, 0, none⟩) ps.length c4) vo ve vr vs) := KD
  obtain ⟨h1, h2, h3, h4, h5, h6, h7, h8⟩ := KD
  obtain ⟨c0, c1, c2, c3, c4', c5, c6, hf⟩ := h1.cells7
  obtain ⟨g, cap, hv', hg, hc, hm, hlt, hcell, hfr⟩ := h2.pos (by omega)
  simp only [Value.slice.injEq, Option.some.injEq, Addr.mk.injEq, and_true, true_and] at hv'
  obtain ⟨rfl, rfl⟩ := hv'
  have k3 := (hcell (b * 4 + 3) (by omega)).trans (pl4_get _ _ _ _ n b hb).2.2.2
  have k3' : w3.cell? ⟨gp, b * 4 + 3, none⟩ = some (.int .i64 (s.lw b : Nat)) := k3
  have hbI : (b : Int) < (n : Int) := by omega
  generalize hx : s.lw b = lb at k3' hlb HS
  generalize hy : s.lw v = lv at a3 hlow hlw HS hlI
  generalize s.tn v = tv at a2 hlow htn hlI
  clear hx hy k3 h1 h2 h3 h4 h5 h6 h7 h8 hcell AD HP HL HB
  go_wp2_with fail
  go_quiet ((go_at_call 39; exact Calls.quiet_of (hh _ hw3)))
  have HD' : Hid (Wk (w3.drewN nq) o1 L p n la es { s with path := ps } gp cp gb cb (.slice (some ⟨g4, 0, none⟩) ps.length c4) vo ve vr vs) := HD.out
  have SE : Step (WL L) w o (w3.drewN nq) o1 := SD.drewN nq
  have a3' : (w3.drewN nq).cell? ⟨b0, 3, none⟩ = some (.int .i64 (lv : Nat)) := a3
  have k3b : (w3.drewN nq).cell? ⟨gp, b * 4 + 3, none⟩ = some (.int .i64 (lb : Nat)) := k3'
  have fr' : ∀ j, (w3.drewN nq).frozen? ⟨gp, j, none⟩ = false := hfr
  clear HD SD a3 k3' hfr a0 a1 a2 af c0 c1 c2 c3 c4' c5 c6 hf hh hw3 hlt
  generalize w3.drewN nq = w4 at HD' SE a3' k3b fr' ⊢
  have hmin : (if lv < lb then (lv : Int) else (lb : Int)) = ((min lb lv : Nat) : Int) := by split <;> omega
  go_wp2_with fail
  go_region
  have RES : ∃ o', Wm (w4.setCell ⟨gp, b * 4 + 3, none⟩ (.int .i64 ((min lb lv : Nat) : Int))).drew o' L p n la es sf ∧ Step (WL L) w o (w4.setCell ⟨gp, b * 4 + 3, none⟩ (.int .i64 ((min lb lv : Nat) : Int))).drew o' := by
    obtain ⟨h1, h2, h3, h4, h5, h6, h7, h8⟩ := HD'.out
    have s4 : Step (fun k => k = L + 1) w4 o1 (w4.setCell ⟨gp, b * 4 + 3, none⟩ (.int .i64 ((min lb lv : Nat) : Int))) o1 := setStep _ w4 o1 ⟨gp, b * 4 + 3, none⟩ _ hg
    refine ⟨o1, ⟨gp, cp, gb, cb, .slice (some ⟨g4, 0, none⟩) ps.length c4, vo, ve, vr, vs, ?_⟩, (SE.trans (s4.mono fun k hk => ⟨by omega, by omega⟩)).drew⟩
    rw [HS.out]
    have hR := h2.store (b * 4 + 3) (.int .i64 ((min lb lv : Nat) : Int))
    unfold plc at hR
    rw [(pl4_set _ _ _ _ _ n hb).2.2.2, put8_map (fun x : Nat => Value.int .i64 (x : Int)) s.lw] at hR
    replace h1 := h1.step s4 (by omega)
    replace h3 := fun x hx => (h3 x hx).step s4 (by omega)
    replace h4 := h4.step s4 (by omega)
    replace h5 := h5.step s4 (by omega)
    replace h6 := h6.step s4 (by omega)
    replace h7 := h7.step s4 (by omega)
    replace h8 := h8.step s4 (by omega)
    exact ⟨h1, hR, h3, h4, h5, h6, h7, h8⟩
  clear HD' SE
  go_wp2
  refine bodyPost_ret (results_none rfl _ _ _) rfl ?_
  exact ⟨rfl, RES⟩
/-- What going back leaves where a block is shut. -/
def LvOut (w : World) (o : Nat → Nat) (L p n la : Nat) (es : List EdT) (s : Dst) (ps A T : List Nat) (bx : Int) (w' : World) : Prop := ∃ o' m br', ((bx = -1 ∧ br' = s.br) ∨ ∃ e : Nat, bx = (e : Nat) ∧ br' = s.br ++ [e]) ∧ m ∈ T ∧ (∀ x, x ∈ T → m ≤ x) ∧ Wm w' o' L p n la es { s with path := ps, op := A, bl := fun x => if x ∈ T then m else s.bl x, br := br' } ∧ Step (WL L) w o w' o'
theorem lv_end {w w4 w7 : World} {o o4 o7 : Nat → Nat} {L p n la : Nat} {es : List EdT} {s : Dst} {ps A T : List Nat} {m e ide : Nat} {gp cp gb cb g7 c7 : Nat} {vp vo ve vr : Value} {vs : Nat → Value} (hm1 : m ∈ T) (hm2 : ∀ x, x ∈ T → m ≤ x)
    (K : Wk w4 o4 L p n la es { s with path := ps, op := A, bl := fun x => if x ∈ T then m else s.bl x } gp cp gb cb vp vo ve vr vs) (SE : Step (WL L) w o w4 o4) (u7 : Step (fun k => k = L + 4) w4 o4 w7 o7)
    (r7 : Row w7 o7 (L + 4) 3 1 (.slice (some ⟨g7, 0, none⟩) (s.br.length + 1) c7) (s.br.length + 1) (intsL (s.br.map (idn es)) ++ [.int .i64 (ide : Nat)])) (hid : idn es e = ide) (hla : la < L) :
    LvOut w o L p n la es s ps A T (e : Nat) (w7.setCell ⟨p, 5, none⟩ (.slice (some ⟨g7, 0, none⟩) (s.br.length + 1) c7)) := by
  obtain ⟨h1, h2, h3, h4, h5, h6, h7, h8⟩ := K
  have B7 := h1.step u7 (by omega)
  have s9 := B7.stp2 5 (.slice (some ⟨g7, 0, none⟩) (s.br.length + 1) c7)
  have sA : Step (fun k => k = L + 4 ∨ k = L) w4 o4 _ o7 := (u7.mono fun _ h => .inl h).trans (s9.mono fun _ h => .inr h)
  refine ⟨o7, m, s.br ++ [e], .inr ⟨e, rfl, rfl⟩, hm1, hm2, ⟨gp, cp, gb, cb, vp, vo, ve, .slice (some ⟨g7, 0, none⟩) (s.br.length + 1) c7, vs, ?_, h2.step sA (by omega), fun x hx => (h3 x hx).step sA (by omega), h4.step sA (by omega), h5.step sA (by omega), h6.step sA (by omega), ?_, h8.step sA (by omega)⟩, SE.trans (sA.mono fun _ h => ⟨by omega, by omega⟩)⟩
  · have := B7.set 5 (.slice (some ⟨g7, 0, none⟩) (s.br.length + 1) c7)
    simp only [List.setIfInBounds_toArray, List.set_cons_succ, List.set_cons_zero] at this
    exact this
  · have := r7.step s9 (by omega)
    show Row _ _ _ _ _ _ (s.br ++ [e]).length (intsL ((s.br ++ [e]).map (idn es)))
    rw [List.length_append, List.map_append, intsL_append, List.map_cons, hid]; exact this
set_option maxRecDepth 100000 in
set_option maxHeartbeats 4000000 in
theorem leave_shut (w : World) (o : Nat → Nat) (L p n la : Nat) (es : List EdT) (s : Dst) (ps A B T : List Nat) (v : Nat) (h : Wm w o L p n la es s) (hn : n ≤ 64) (hv : v < n) (hp : s.path = ps ++ [v]) (hpl : s.path.length ≤ 64) (hla : la < L) (hlow : ¬ s.lw v < s.tn v) (hlw : s.lw v ≤ 64) (htn : s.tn v ≤ 64) (ho : s.op = A ++ T) (hT : T = v :: B) (hvA : v ∉ A) (hop : ∀ x, x ∈ s.op → x < n) (hol : s.op.length ≤ 64) (hbr : s.br.length ≤ 1000) (hes : es.length ≤ 1000) (bx : Int) (hbx : s.ba v = bx) (hbc : bx = -1 ∨ ∃ e : Nat, bx = (e : Nat) ∧ ∃ he : e < es.length, 0 ≤ es[e].id ∧ es[e].id ≤ 1099511627776) :
    Calls Try.prog 33 #[.pointer (some ⟨p, 0, none⟩)] w fun e' w' => e' = .returned (.tuple #[]) ∧ LvOut w o L p n la es s ps A T bx w' := by
  have HO : Hid (s.op = A ++ T ∧ T = v :: B ∧ v ∉ A ∧ (∀ x, x ∈ s.op → x < n) ∧ s.op.length ≤ 64) := ⟨ho, hT, hvA, hop, hol⟩
  have HBX : Hid (s.ba v = bx) := hbx
  have HBC : Hid (bx = -1 ∨ ∃ e : Nat, bx = (e : Nat) ∧ ∃ he : e < es.length, 0 ≤ es[e].id ∧ es[e].id ≤ 1099511627776) := hbc
  clear ho hT hvA hop hol hbx hbc
  have hl : s.path.length = ps.length + 1 := by rw [hp]; simp
  have hh := here_w w o L p n la es s ps v h hp (by omega)
  obtain ⟨gp, cp, gb, cb, vp, vo, ve, vr, vs, hk⟩ := h
  have HK : Hid (Wk w o L p n la es s gp cp gb cb vp vo ve vr vs) := hk
  have HP : Hid (s.path = ps ++ [v]) := hp
  have HL : Hid (s.path.length = ps.length + 1) := hl
  have hps : ps.length ≤ 64 := by omega
  clear hk hp hl hpl
  go_enter Try.func33, Try.ntmps33
  go_wp2_with fail
  refine hh.mono ?_
  rintro e w0 ⟨rfl, m0, rfl⟩
  have h : Wk (w.drewN m0) o L p n la es s gp cp gb cb vp vo ve vr vs := HK.out
  have sw : Step (fun _ => False) w o (w.drewN m0) o := drewStep _ w o m0
  clear HK hh
  generalize w.drewN m0 = w0 at h sw ⊢
  obtain ⟨h1, h2, h3, h4, h5, h6, h7, h8⟩ := h
  rw [HL.out] at h4
  obtain ⟨g4, c4, rfl, hg4, hc4, hm4, hlt4, _, hf4⟩ := h4.pos (by omega)
  have h4' : Row w0 o (L + 2) 3 1 (.slice (some ⟨g4, 0, none⟩) (ps.length + 1) c4) s.path.length (intsL s.path) := by rw [HL.out]; exact h4
  obtain ⟨c0, c1, c2, c3, c4', c5, c6, hf⟩ := h1.cells7
  obtain ⟨g, cap, hv', hg, hc, hm, hlt, hcell, hfr⟩ := h2.pos (by omega)
  simp only [Value.slice.injEq, Option.some.injEq, Addr.mk.injEq, and_true, true_and] at hv'
  obtain ⟨rfl, rfl⟩ := hv'
  obtain ⟨k0, k1, k2, k3⟩ := pl4_get vs (fun x => .int .i64 (s.ba x)) (fun x => .int .i64 (s.tn x : Nat)) (fun x => .int .i64 (s.lw x : Nat)) n v hv
  replace k0 := (hcell (v * 4) (by omega)).trans k0
  replace k1 := (hcell (v * 4 + 1) (by omega)).trans k1
  replace k2 := (hcell (v * 4 + 2) (by omega)).trans k2
  replace k3 := (hcell (v * 4 + 3) (by omega)).trans k3
  have hvI : (v : Int) < (n : Int) := by omega
  have z00 : Blk (w0.alloc (.cells #[.slice none 0 0, .int .i64 0, .int .i64 0, .int .i64 0] 66)) (newLab w0 o (L + 7)) (L + 7) w0.heap.size (.cells #[.slice none 0 0, .int .i64 0, .int .i64 0, .int .i64 0] 66 (0, 0)) := ⟨heap_alloc_new w0 _, newLab_new (Nat.le_refl _)⟩
  obtain ⟨a0, a1, a2, a3, af⟩ := z00.cells4
  have s0 := newStep (fun _ => False) w0 o (L + 7) (.cells #[vs v, .int .i64 (s.ba v), .int .i64 (s.tn v : Nat), .int .i64 (s.lw v : Nat)] 66)
  have A0 : Blk (w0.alloc (.cells #[vs v, .int .i64 (s.ba v), .int .i64 (s.tn v : Nat), .int .i64 (s.lw v : Nat)] 66)) (newLab w0 o (L + 7)) (L + 7) w0.heap.size (.cells #[vs v, .int .i64 (s.ba v), .int .i64 (s.tn v : Nat), .int .i64 (s.lw v : Nat)] 66 (0, 0)) := ⟨heap_alloc_new w0 _, newLab_new (Nat.le_refl _)⟩
  have K1 : Wk (w0.alloc (.cells #[vs v, .int .i64 (s.ba v), .int .i64 (s.tn v : Nat), .int .i64 (s.lw v : Nat)] 66)) (newLab w0 o (L + 7)) L p n la es s gp cp gb cb (.slice (some ⟨g4, 0, none⟩) (ps.length + 1) c4) vo ve vr vs := Wk.step hn ⟨h1, h2, h3, h4', h5, h6, h7, h8⟩ s0 (fun _ _ => id) id
  have KK : Hid (Wk (w0.alloc (.cells #[vs v, .int .i64 (s.ba v), .int .i64 (s.tn v : Nat), .int .i64 (s.lw v : Nat)] 66)) (newLab w0 o (L + 7)) L p n la es s gp cp gb cb (.slice (some ⟨g4, 0, none⟩) (ps.length + 1) c4) vo ve vr vs) := K1
  have S1 : Hid (Step (fun _ => False) w o (w0.alloc (.cells #[vs v, .int .i64 (s.ba v), .int .i64 (s.tn v : Nat), .int .i64 (s.lw v : Nat)] 66)) (newLab w0 o (L + 7))) := sw.trans s0
  obtain ⟨ao, ca, hvs, q1, q2, _⟩ := h3 v hv
  rw [hvs] at k0 A0 KK S1
  unfold maxLen at hm4
  clear h1 h2 h3 h4 h4' h5 h6 h7 h8 hcell z00 K1 s0 sw
  go_upto_region 2 with fail
  clear a0 a1 a2 a3 af c0 c1 c2 c3 c4' c5 c6 hf k0 k1 k2 k3 hg hc hm hlt hfr hg4 hlt4 hf4 hvs q1 q2
  obtain ⟨b0, hb0⟩ : ∃ b0, b0 = w0.heap.size := ⟨_, rfl⟩
  rw [← hb0] at A0 ⊢
  generalize w0.alloc (.cells #[.slice ao (s.st v).length ca, .int .i64 (s.ba v), .int .i64 (s.tn v : Nat), .int .i64 (s.lw v : Nat)] 66) = w1 at A0 KK S1 ⊢
  generalize newLab w0 o (L + 7) = o1 at A0 KK S1
  clear hb0
  replace KK := KK.out
  obtain ⟨KC, sC⟩ := KK.cutPath HP.out hn hla
  obtain ⟨c0, c1, c2, c3, c4', c5, c6, hf⟩ := KK.1.cells7
  have AC := A0.step sC (by omega)
  have HKC : Hid (Wk (w1.setCell ⟨p, 2, none⟩ (.slice (some ⟨g4, 0, none⟩) ps.length c4)) o1 L p n la es { s with path := ps } gp cp gb cb (.slice (some ⟨g4, 0, none⟩) ps.length c4) vo ve vr vs) := KC
  have SC : Hid (Step (WL L) w o (w1.setCell ⟨p, 2, none⟩ (.slice (some ⟨g4, 0, none⟩) ps.length c4)) o1) := (S1.out.mono fun _ h => h.elim).trans (sC.mono fun _ h => ⟨by omega, by omega⟩)
  have HAC : Hid (Blk (w1.setCell ⟨p, 2, none⟩ (.slice (some ⟨g4, 0, none⟩) ps.length c4)) o1 (L + 7) b0 (.cells #[.slice ao (s.st v).length ca, .int .i64 (s.ba v), .int .i64 (s.tn v : Nat), .int .i64 (s.lw v : Nat)] 66 (0, 0))) := AC
  clear KC KK sC AC A0 S1
  go_wp2_with fail
  go_region
  clear c0 c1 c2 c3 c4' c5 c6 hf
  generalize (w1.setCell ⟨p, 2, none⟩ (.slice (some ⟨g4, 0, none⟩) ps.length c4)) = w2 at HKC SC HAC ⊢
  have KD : Wk w2.drew o1 L p n la es { s with path := ps } gp cp gb cb (.slice (some ⟨g4, 0, none⟩) ps.length c4) vo ve vr vs := HKC.out
  have SD : Step (WL L) w o w2.drew o1 := SC.out.drew
  have AD : Blk w2.drew o1 (L + 7) b0 (.cells #[.slice ao (s.st v).length ca, .int .i64 (s.ba v), .int .i64 (s.tn v : Nat), .int .i64 (s.lw v : Nat)] 66 (0, 0)) := HAC.out
  clear HKC SC HAC
  generalize w2.drew = w3 at KD SD AD ⊢
  obtain ⟨a0, a1, a2, a3, af⟩ := AD.cells4
  rw [HBX.out] at a1
  have hsh := shut_w w3 o1 L p n la es { s with path := ps } A B T v ⟨gp, cp, gb, cb, _, vo, ve, vr, vs, KD⟩ hn HO.out.1 HO.out.2.1 HO.out.2.2.1 HO.out.2.2.2.1 HO.out.2.2.2.2 hla
  have hlI : ¬ ((s.lw v : Int) < (s.tn v : Int)) := by omega
  clear KD HO HP HL
  generalize hy : s.lw v = lv at a3 hlow hlw hlI
  generalize hz : s.tn v = tv at a2 hlow htn hlI
  have AD' : Hid (Blk w3 o1 (L + 7) b0 (.cells #[.slice ao (s.st v).length ca, .int .i64 bx, .int .i64 (tv : Nat), .int .i64 (lv : Nat)] 66 (0, 0))) := by rw [← HBX.out, ← hy, ← hz]; exact AD
  clear hy hz AD
  go_wp2_with fail
  refine hsh.mono ?_
  rintro e w4 ⟨rfl, o4, m, hm1, hm2, W4, s4⟩
  have HM : Hid (m ∈ T ∧ ∀ x, x ∈ T → m ≤ x) := ⟨hm1, hm2⟩
  have A4 : Blk w4 o4 (L + 7) b0 (.cells #[.slice ao (s.st v).length ca, .int .i64 bx, .int .i64 (tv : Nat), .int .i64 (lv : Nat)] 66 (0, 0)) := AD'.out.step s4 (fun h => by have := h.2; omega)
  obtain ⟨gp', cp', gb', cb', vp', vo', ve', vr', vs', KE⟩ := W4
  obtain ⟨b0', b1, b2, b3, bf⟩ := A4.cells4
  have SE : Step (WL L) w o w4 o4 := SD.trans (s4.mono fun k hk => ⟨hk.1, by have := hk.2; omega⟩)
  clear s4 SD AD' hm1 hm2 hsh a0 a1 a2 a3 af
  rcases HBC.out with hc1 | ⟨e, hc1, hc2, hc3, hc4⟩
  · subst hc1
    have RES : LvOut w o L p n la es s ps A T (-1) w4 :=
      ⟨o4, m, s.br, .inl ⟨rfl, rfl⟩, HM.out.1, HM.out.2, ⟨gp', cp', gb', cb', vp', vo', ve', vr', vs', KE⟩, SE⟩
    clear KE
    go_wp2
    go_end0
    exact ⟨rfl, RES⟩
  · subst hc1
    have heI : (e : Int) < (es.length : Int) := by omega
    have hne : ((e : Int) == -1) = false := by simp only [beq_eq_false_iff_ne, ne_eq]; omega
    have HK : Hid (Wk w4 o4 L p n la es { s with path := ps, op := A, bl := fun x => if x ∈ T then m else s.bl x } gp' cp' gb' cb' vp' vo' ve' vr' vs') := KE
    obtain ⟨h1, h2, h3, h4, h5, h6, h7, h8⟩ := KE
    obtain ⟨c0, c1, c2, c3, c4', c5, c6, hf⟩ := h1.cells7
    obtain ⟨ae, ce, rfl, q1, q2, q3⟩ := h6
    obtain ⟨ge, off, rfl, q4, q5, q6⟩ := q3 (by omega)
    obtain ⟨e0, _⟩ := q6 e hc2
    have hid : idn es e = es[e].id.toNat := by simp [idn, hc2]
    have e0' : w4.cell? ⟨ge, off + e * 4, none⟩ = some (.int .i64 (idn es e : Nat)) := by rw [e0, hid]; congr 2; omega
    generalize hidn : idn es e = ide at e0'
    have hh7 : Row w4 o4 (L + 4) 3 1 vr' s.br.length (intsL (s.br.map (idn es))) := h7
    clear q3 q6 e0 hid h1 h2 h3 h4 h5 h7 h8 hc3 hc4
    unfold maxLen at q2
    obtain ⟨ii, hii, hzi0, hzi1, hzi2⟩ := info_parts infoInt
    go_wp2_with fail
    have hone : ∀ u ∈ ([.int .i64 (ide : Nat)] : List Value), u.oneCell' = true := fun u hu => by simp at hu; subst hu; rfl
    have b1 : s.br.length + 1 ≤ maxLen := by unfold maxLen; omega
    have b2' : (s.br.length + 1) * 8 ≤ 140737488355328 := by omega
    have B4 := HK.out.1
    have hplt := B4.lt
    have hblt := A4.lt
    go_region_law (refine step_append_lab rfl (.tmp 60) (.tmp 70) 38 rfl 3 ii (.int .i64 0) 1 8 Try.underlying38 hii hzi0 hzi1 hzi2 rfl (by decide) o4 (L + 4) vr' s.br.length (intsL (s.br.map (idn es))) (by simp [Act.eval]) (hh7.step (((Step.refl (fun _ => False) w4 o4).alloc _).drew) (by simp)) ⟨w4.heap.size, 0, none⟩ 1 1 [.int .i64 (ide : Nat)] (by simp [Act.eval]) rfl (new_one_at (by simp) _ _) hone (by decide) b1 b2' ?_; intro g7 c7 w7 o7 r7 s7; have u7 := (((Step.refl (fun x => x = L + 4) w4 o4).alloc _).drew).trans s7; have B7 := B4.step u7 (by omega); obtain ⟨d0, d1, d2, d3, d4, d5, d6, df⟩ := B7.cells7)
    all_goals (
      have RES := lv_end HM.out.1 HM.out.2 HK.out SE u7 r7 hidn hla
      go_end0
      exact ⟨rfl, RES⟩)
end Go.Proofs.Ytanahbkkgppfnaa
