/- VsetFamilies: a step that asks for the groups of names. -/
import Derived.Test.YtmpkhbblakfglaaDoorFRelab9
import Derived.Test.YtmpkhbblakfglaaDoorFStep69
namespace Go.Proofs.YtmpkhbblakfglaaDoor
open Go.ChangeShapes Go.WideShapes Go.ChangeAt Go.RowKit Go.Maps
set_option linter.unusedVariables false
set_option linter.unusedSimpArgs false

theorem gl_at {B N i : Nat} (h : N + i < 40) : gl B N i = B + 500 + (N + i) := if_pos h
theorem gl_no {B N i : Nat} (h : ¬ N + i < 40) : gl B N i = 93 := if_neg h
/-- What the loop over groups keeps. -/
structure G7 (B ps pf px N : Nat) (F : ByteArray → Option Nat) (m : Nat) (NL : List ByteArray) (xs : List Nat) (G : Grp) (vs : List Value) (v : Value) (i : Nat) (wq : World) (oq : Nat → Nat) (N' : Nat) (ls' : List (List ByteArray)) : Prop where
  q : SQ B ps pf px N' ls' F m NL xs m wq oq
  n1 : N + i ≤ 40 → N' = N + i
  n2 : 40 < N + i → N' = 40
  out : Row wq oq 94 28 1 v G.length vs
  gr : ∀ j (h : j < G.length), i ≤ j → ∃ u, vs[j]? = some u ∧ Row wq oq (gl B N j) 9 1 u (G[j]).2.length (strsL (G[j]).2)
theorem G7.step {B ps pf px N : Nat} {F : ByteArray → Option Nat} {m : Nat} {NL : List ByteArray} {xs : List Nat} {G : Grp} {vs : List Value} {v : Value} {i : Nat} {wq w' : World} {oq o' : Nat → Nat} {N' : Nat} {ls' : List (List ByteArray)} (h : G7 B ps pf px N F m NL xs G vs v i wq oq N' ls') (s : Step (fun _ => False) wq oq w' o') : G7 B ps pf px N F m NL xs G vs v i w' o' N' ls' :=
  ⟨h.q.step s (fun _ _ => id) id, h.n1, h.n2, h.out.step s id, fun j hj hi => by
    obtain ⟨u, h1, h2⟩ := h.gr j hj hi
    exact ⟨u, h1, h2.step s id⟩⟩
/-- One group is kept. -/
theorem keep_one {B ps pf px N : Nat} {F : ByteArray → Option Nat} {m : Nat} {NL : List ByteArray} {xs : List Nat} {G : Grp} {vs : List Value} {v : Value} {i : Nat} {wq : World} {oq : Nat → Nat} {N' : Nat} {ls' : List (List ByteArray)} (hB : B = 1000000 ∨ B = 2000000) (hN : N ≤ 40) (h : G7 B ps pf px N F m NL xs G vs v i wq oq N' ls') (hi : i < G.length) (hl : (G[i]).2.length ≤ 16) : ∃ u, vs[i]? = some u ∧
    Calls Tryd.prog 27 #[.pointer (some ⟨ps, 0, none⟩), u] wq fun e w' => e = .returned (.tuple #[]) ∧ ∃ o' N2 ls2, G7 B ps pf px N F m NL xs G vs v (i + 1) w' o' N2 ls2 ∧ Step (SB B) wq oq w' o' := by
  obtain ⟨u, hu, hr⟩ := h.gr i hi (Nat.le_refl _)
  refine ⟨u, hu, ?_⟩
  obtain ⟨va, vw, als, wls, hK, hF, hR, hT, hW⟩ := h.q
  have n1 := h.n1
  have n2 := h.n2
  by_cases hlt : N + i < 40
  · have e1 : N' = N + i := n1 (by omega)
    rw [gl_at hlt, ← e1] at hr
    refine (keeps_new wq oq B ps _ _ N' ls' va vw als wls u _ hK (by omega) hr hl).mono fun e w' hk => ?_
    obtain ⟨va2, vw2, als2, wls2, o', h1, h2, _, s⟩ := hk
    refine ⟨h1, o', N' + 1, _, ⟨⟨va2, vw2, als2, wls2, h2, hF.step s (by unfold KI; omega) (by unfold KI; omega), hR.step s (by unfold KI; omega), hT.step s (by unfold KI; omega), hW.step s (by unfold KI; omega)⟩, fun _ => by omega, fun _ => by omega, h.out.step s (by unfold KI; omega), fun j hj hij => ?_⟩, s.mono fun k hk => by unfold KI at hk; unfold SB; omega⟩
    obtain ⟨u2, k1, k2⟩ := h.gr j hj (by omega)
    refine ⟨u2, k1, k2.step s ?_⟩
    unfold gl KI
    split <;> omega
  · have e1 : N' = 40 := by
      by_cases e : N + i = 40
      · rw [n1 (by omega), e]
      · exact n2 (by omega)
    refine (keeps_old wq oq B ps _ _ N' ls' va vw als wls u hK (by omega)).mono fun e w' hk => ?_
    obtain ⟨h1, rfl⟩ := hk
    exact ⟨h1, oq, N', ls', ⟨h.q, fun _ => by omega, fun _ => by omega, h.out, fun j hj hij => h.gr j hj (by omega)⟩, Step.refl _ _ _⟩
set_option maxRecDepth 100000 in
set_option maxHeartbeats 4000000 in
theorem step_7 (w : World) (o : Nat → Nat) (B ps : Nat) (hB : B = 1000000 ∨ B = 2000000) (hc : Cl o) (h : SX B ps w o) (n : Int) (s : ByteArray) (ao : Option Addr) (len cap : Nat) (ot : Bool) :
    Calls Tryd.prog 6 #[.pointer (some ⟨ps, 0, none⟩), .agg #[.int .i64 7, .int .i64 n, .string s, .slice ao len cap, .bool ot]] w fun e w' => StO w o B (SX B ps) e w' := by
  obtain ⟨pf, px, N, ls, F, m, NL, xs, f, q⟩ := h
  have sB := newStep (fun _ => False) w o 95 (.cells #[.int .i64 7, .int .i64 n, .string s, .slice ao len cap, .bool ot] 37)
  have Q1 := q.step sB (fun _ _ => id) id
  have S1 : Step (fun k => SB B k ∨ (90 ≤ k ∧ k < 300)) w o _ _ := sB.mono (fun _ h => h.elim)
  have hc1 : Cl (newLab w o 95) := fun k => by
    unfold newLab
    split
    · exact hc k
    · unfold SP; omega
  have e3 : (w.alloc (.cells #[.int .i64 7, .int .i64 n, .string s, .slice ao len cap, .bool ot] 37)).heap[w.heap.size]? = some (.cells #[.int .i64 7, .int .i64 n, .string s, .slice ao len cap, .bool ot] 37 (0, 0)) := heap_alloc_new w _
  clear q sB hc
  have hle := f.le
  have HF : Hid (FN F m NL xs) := f
  clear f
  go_enter Tryd.func6, Tryd.ntmps6
  go_upto_region 1 with fail
  obtain ⟨b3, hb3⟩ : ∃ b3, b3 = w.heap.size := ⟨_, rfl⟩
  rw [← hb3] at e3 ⊢
  generalize newLab w o 95 = o1 at Q1 S1 hc1
  generalize w.alloc (.cells #[.int .i64 7, .int .i64 n, .string s, .slice ao len cap, .bool ot] 37) = w1 at Q1 S1 e3 ⊢
  clear hb3
  have d0 : w1.cell? ⟨b3, 0, none⟩ = some (.int .i64 7) := by simp [cell_of_row w1 b3 _ _ _ (0, 0) e3]
  clear e3
  go_upto_region 28 with fail
  clear d0
  have c0 := (SQ.sta B ps pf px N ls F m NL xs m).c0 Q1
  have hFam : Fam w1 o1 (B + 1000) pf m F := by obtain ⟨_, _, _, _, _, h, _⟩ := Q1; exact h
  have hN40 : N ≤ 40 := by obtain ⟨_, _, _, _, hK, _⟩ := Q1; have := hK.lt.le; rw [hK.ln] at this; exact this
  have hsf := same_fam w1 o1 (B + 1000) pf m F hFam (by omega) HF.out.ok
  clear hFam
  go_wp2_with fail
  refine hsf.mono ?_
  rintro e w2 ⟨v, NL2, G, o2, rfl, hNL, hNl, hGo, gM, hGl, hF2, s2⟩
  obtain rfl : NL2 = NL := hNL.uniq HF.out.nm
  clear hsf c0
  have s2' : Step (fun k => B + 1000 ≤ k ∧ k < B + 300000) w1 o1 w2 o2 := s2.mono fun k hk => by omega
  have Q2 := (Q1.fam hF2 s2' (by omega)).lab hB (r7_rl (N := N) hB o2 w2)
  have S2 := S1.trans (((s2.r7d (N := N) hB hc1)).mono fun k hk => (by unfold SB; omega : SB B k ∨ (90 ≤ k ∧ k < 300)))
  obtain ⟨vs, ro, rg⟩ := gM.r7d (N := N) (by omega)
  have o3def : ∀ k, r7 B N o2 k = r7 B N o2 k := fun _ => rfl
  have hlab : ∀ k, (o2 k = B + 1004 ∨ ∃ i, i < G.length ∧ o2 k = B + 1010 + i) → ¬ SI 100 101 (r7 B N o2 k) := fun k hk => by
    unfold SI r7
    rcases hk with e | ⟨i, hi, e⟩
    · rw [if_pos e]; omega
    · rw [if_neg (by omega), if_pos (by omega)]
      unfold gl
      split <;> omega
  generalize r7 B N o2 = o3 at Q2 S2 ro rg hlab
  clear Q1 S1 s2 s2' hF2 o3def hc1
  obtain ⟨ga, gc, hv⟩ := ro.form
  subst hv
  have c1 := (SQ.sta B ps pf px N ls F m NL2 xs m).c1 Q2
  have hRX : RX w2 o3 (B + 1) px m NL2 xs := by obtain ⟨_, _, _, _, _, _, h, _⟩ := Q2; exact h
  have hrs := refSame_c w2 o3 (B + 1) px m 100 101 NL2 xs hRX hle (fun k hk => (HF.out.ok _ _ (HF.out.ev k hk)).1) (by omega) (.inr (by omega))
  clear hRX
  go_wp2_with fail
  refine hrs.mono ?_
  rintro e w3 ⟨v3, o4, rfl, gR, s4⟩
  have Q3 := Q2.step s4 (fun k hk => by unfold SB at hk; unfold SI; omega) (by unfold SI; omega)
  have S3 := S2.trans (s4.mono fun k hk => (by unfold SI at hk; omega : SB B k ∨ (90 ≤ k ∧ k < 300)))
  have ro3 := ro.step s4 (by unfold SI; omega)
  have rg3 : ∀ i (h : i < G.length), ∃ u, vs[i]? = some u ∧ Row w3 o4 (gl B N i) 9 1 u (G[i]).2.length (strsL (G[i]).2) := fun i hi => by
    obtain ⟨u, h1, h2⟩ := rg i hi
    refine ⟨u, h1, h2.step s4 ?_⟩
    unfold SI gl
    split <;> omega
  have gM3 := gM.keep (w' := w3) (fun k hk hk2 => s4.block k hk (hlab k hk2))
  have hcan : G.map (·.2) = (rG NL2 xs m m).map (·.2) := (hGo.can HF.out.nm).uniq (rG_can HF.out.nm HF.out.ln HF.out.ev)
  have hln : ∀ i (h : i < G.length), (G[i]).2.length ≤ 16 := fun i hi => Nat.le_trans (hGo.sub i hi).length_le HF.out.short
  have hgy := groups_yes w3 o2 o4 _ _ _ _ G.length G _ _ v3 hcan rfl (by omega) (fun i hi => Nat.le_trans (hln i hi) (by omega)) gM3 gR
  obtain ⟨g3, c3, hv3⟩ := gR.form
  subst hv3
  clear hrs c1 Q2 S2 ro rg gM hlab s4
  go_wp2_with fail
  refine hgy.mono ?_
  rintro e w4 ⟨rfl, s5'⟩
  have s5 : Step (fun _ => False) w3 o4 w4 o4 := ⟨s5'.os, s5'.tape, s5'.output, s5'.size, fun _ _ => rfl, fun k hk _ => s5'.block k hk id⟩
  have G0 : G7 B ps pf px N F m NL2 xs G vs (.slice ga G.length gc) 0 w4 o4 N ls := (⟨Q3, fun _ => by omega, fun _ => by omega, ro3, fun j hj _ => rg3 j hj⟩ : G7 B ps pf px N F m NL2 xs G vs (.slice ga G.length gc) 0 w3 o4 N ls).step s5
  have S4 := S3.trans (s5.mono fun _ h => h.elim)
  obtain ⟨K, hKK⟩ : ∃ K, K = G.length := ⟨_, rfl⟩
  have HKK : Hid (K = G.length) := hKK
  have hK16 : K ≤ 16 := by omega
  have HLN : Hid (∀ i (h : i < G.length), (G[i]).2.length ≤ 16) := hln
  rw [← hKK] at G0 ⊢
  clear hgy gM3 gR Q3 S3 ro3 rg3 s5 s5' hcan hln hGo hKK hGl
  go_wp2_with fail
  go_loopw [20] (fun v20 wq => ∃ (i : Nat) (oq : Nat → Nat) (N' : Nat) (ls' : List (List ByteArray)), i ≤ K ∧ v20 = .int .i64 (i : Nat) ∧ G7 B ps pf px N F m NL2 xs G vs (.slice ga K gc) i wq oq N' ls' ∧ Step (fun k => SB B k ∨ (90 ≤ k ∧ k < 300)) w o wq oq) (fun v20 _ => K - (intOf v20).toNat)
  case atStart => exact ⟨0, o4, N, ls, by omega, by go_num, G0, S4⟩
  case round =>
    clear G0 S4
    obtain ⟨i, oq, N', ls', hi, rfl, g, S5⟩ := hrel
    by_cases hlt : i < K
    · have hiI : (i : Int) < (K : Int) := by omega
      have hiG : i < G.length := by rw [← HKK.out]; exact hlt
      obtain ⟨u, hu, hkp⟩ := keep_one hB hN40 g hiG (HLN.out i hiG)
      have hro := g.out
      rw [← HKK.out] at hro
      obtain ⟨gg, cc, hv, _, hcc, hmm, _, hcell, _⟩ := hro.pos (by omega)
      simp only [Value.slice.injEq, true_and] at hv
      obtain ⟨rfl, rfl⟩ := hv
      have cu := (hcell i (by omega)).trans hu
      unfold maxLen at hmm
      clear hcell hro hu g
      go_wp2_with fail
      refine hkp.mono ?_
      rintro e w6 ⟨rfl, o6, N2, ls2, g6, s6⟩
      have S6 := S5.trans (s6.mono fun k hk => (Or.inl hk : SB B k ∨ (90 ≤ k ∧ k < 300)))
      clear hkp cu S5 s6
      go_wp2
      go_roundw
      case rel => (try ((repeat apply Exists.intro); refine ⟨?_, rfl⟩)); exact ⟨i + 1, o6, N2, ls2, by omega, by go_num, g6, S6⟩
      case measure => simp [intOf]; omega
    · obtain rfl : i = K := by omega
      have hiI : ¬ (i : Int) < (i : Int) := by omega
      have hro := g.out
      rw [← HKK.out] at hro
      have Q7 := g.q
      clear g hiI
      go_wp2_with fail
      go_loopw [21] (fun v21 wq => ∃ (k : Nat) (oq : Nat → Nat) (vs2 : List Value), k ≤ i ∧ v21 = .int .i64 (k : Nat) ∧ SQ B ps pf px N' ls' F m NL2 xs m wq oq ∧ Row wq oq 94 28 1 (.slice ga i gc) i vs2 ∧ Step (fun k => SB B k ∨ (90 ≤ k ∧ k < 300)) w o wq oq) (fun v21 _ => i - (intOf v21).toNat)
      case atStart => exact ⟨0, oq, vs, by omega, by go_num, Q7, hro, S5⟩
      case round =>
        clear Q7 hro S5
        obtain ⟨k, oq, vs2, hk, rfl, Q8, r8, S8⟩ := hrel
        by_cases hlk : k < i
        · have hkI : (k : Int) < (i : Int) := by omega
          obtain ⟨gg, cc, hv, hlg, hcc, hmm, _, hcell, hfr⟩ := r8.pos (by omega)
          simp only [Value.slice.injEq, true_and] at hv
          obtain ⟨rfl, rfl⟩ := hv
          have hvl : vs2.length = i := by have := r8.len; omega
          have cu := (hcell k (by omega)).trans (List.getElem?_eq_getElem (show k < vs2.length by omega))
          have fu := hfr k
          have s9 := setStep (fun q => q = 94) wr oq ⟨gg, k, none⟩ (.slice none 0 0) hlg
          have r9 := r8.store k (.slice none 0 0)
          have Q9 := Q8.step s9 (fun q hq => by unfold SB at hq; omega) (by omega)
          have S9 := S8.trans (s9.mono fun q hq => (by omega : SB B q ∨ (90 ≤ q ∧ q < 300)))
          generalize vs2[k]'(by omega) = uu at cu
          unfold maxLen at hmm
          clear hcell hfr r8 Q8 S8 s9 hvl
          go_wp2
          go_roundw
          case rel => (try ((repeat apply Exists.intro); refine ⟨?_, rfl⟩)); exact ⟨k + 1, oq, _, by omega, by go_num, Q9, r9, S9⟩
          case measure => simp [intOf]; omega
        · obtain rfl : k = i := by omega
          have HR : Hid (StO w o B (SX B ps) (.returned (.bool true)) wr) := ⟨rfl, oq, ⟨pf, px, N', ls', F, m, NL2, xs, HF.out, Q8⟩, S8⟩
          clear Q8 r8 S8
          go_wp2
          go_ret
          exact HR.out
end Go.Proofs.YtmpkhbblakfglaaDoor
