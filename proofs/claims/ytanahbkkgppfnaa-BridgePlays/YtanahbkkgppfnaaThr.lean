/- Through a component. -/
import Derived.Test.YtanahbkkgppfnaaLeave
import Derived.Test.YtanahbkkgppfnaaBnd
import Derived.WalkMore
namespace Go.Proofs.Ytanahbkkgppfnaa
open Go.ChangeShapes Go.WideShapes Go.ChangeAt Go.RowKit
set_option linter.unusedVariables false

/-- The ends of edges. -/
def ends (es : List EdT) : List (Nat × Nat) := es.map fun x => (x.u.toNat, x.v.toNat)
theorem ends_len (es : List EdT) : (ends es).length = es.length := by simp [ends]
/-- A walk in memory, all of it. -/
def Wv (w : World) (o : Nat → Nat) (L p n la : Nat) (es : List EdT) (τ : Nat) (s : Dst) : Prop := Wm w o L p n la es s ∧ Gv (ends es) n τ s ∧ la < L ∧ (∀ x, x ∈ es → 0 ≤ x.id ∧ x.id ≤ 1099511627776)
theorem leave_v (w : World) (o : Nat → Nat) (L p n la : Nat) (es : List EdT) (τ : Nat) (s : Dst) (ps : List Nat) (v : Nat) (h : Wv w o L p n la es τ s) (hp : s.path = ps ++ [v]) (hs : s.st v = []) :
    Calls Try.prog 33 #[.pointer (some ⟨p, 0, none⟩)] w fun e' w' => e' = .returned (.tuple #[]) ∧ ∃ o' s', Wv w' o' L p n la es τ s' ∧ s'.path = ps ∧ s'.tn = s.tn ∧ s'.st = s.st ∧ Step (WL L) w o w' o' := by
  obtain ⟨hW, hG, hla, hid⟩ := h
  obtain ⟨b1, b2, b3, b4, b5, b6, b7, b8, b9⟩ := hG.bounds
  have hvp : v ∈ s.path := by rw [hp]; simp
  have hn : n ≤ 64 := hG.2.2.2.1
  have hle : es.length ≤ 192 := by have := hG.2.2.2.2.1; rw [ends_len] at this; exact this
  by_cases hlow : s.lw v < s.tn v
  · obtain ⟨ps0, b, hps, hb, hbv, hG'⟩ := hG.leave hp hs hlow
    refine (leave_low w o L p n la es s ps0 ps v b hW hn (b7 v hvp) (b7 b hb) hbv hp hps b2 hla hlow (b6 v hvp) (b6 b hb) (b5 v) _ rfl).mono ?_
    rintro e w' ⟨rfl, o', W', s'⟩
    exact ⟨rfl, o', _, ⟨W', hG', hla, hid⟩, rfl, rfl, rfl, s'⟩
  · obtain ⟨⟨A, B, hAB, hvA⟩, hba⟩ := hG.open hp
    refine (leave_shut w o L p n la es s ps A B (v :: B) v hW hn (b7 v hvp) hp b2 hla hlow (b6 v hvp) (b5 v) hAB rfl hvA b8 b3 (by omega) (by omega) (s.ba v) rfl ?_).mono ?_
    · rcases hba with q | ⟨e, q1, q2⟩
      · exact .inl q
      · rw [ends_len] at q2
        exact .inr ⟨e, q1, q2, hid _ (List.getElem_mem q2)⟩
    · rintro e w' ⟨rfl, o', m, br', h1, h2, h3, W', s'⟩
      exact ⟨rfl, o', _, ⟨W', hG.shut hp hs hlow hAB rfl h2 h3 h1, hla, hid⟩, rfl, rfl, rfl, s'⟩
theorem advance_v (w : World) (o : Nat → Nat) (L p n la : Nat) (es : List EdT) (τ : Nat) (s : Dst) (ps : List Nat) (v : Nat) (h : Wv w o L p n la es τ s) (hp : s.path = ps ++ [v]) (hs : s.st v ≠ []) :
    Calls Try.prog 34 #[.pointer (some ⟨p, 0, none⟩)] w fun e' w' => e' = .returned (.tuple #[]) ∧ ∃ o' s', Wv w' o' L p n la es τ s' ∧ s'.path ≠ [] ∧ (∀ x, 0 < s.tn x → 0 < s'.tn x) ∧ lfS n s' < lfS n s ∧ Step (WL L) w o w' o' := by
  obtain ⟨hW, hG, hla, hid⟩ := h
  obtain ⟨b1, b2, b3, b4, b5, b6, b7, b8, b9⟩ := hG.bounds
  have hvp : v ∈ s.path := by rw [hp]; simp
  have hn : n ≤ 64 := hG.2.2.2.1
  have hle : es.length ≤ 192 := by have := hG.2.2.2.2.1; rw [ends_len] at this; exact this
  obtain ⟨⟨e, y⟩, t, hs'⟩ : ∃ a t, s.st v = a :: t := by
    cases hq : s.st v with
    | nil => exact absurd hq hs
    | cons a t => exact ⟨a, t, rfl⟩
  obtain ⟨hy, he⟩ := hG.step (ps := ps) hs'
  rw [ends_len] at he
  obtain ⟨hG', hlf, hmo, hne⟩ := hG.adv hp hs'
  have h9 := b9 v (b7 v hvp)
  rw [hs'] at h9
  simp only [List.length_cons] at h9
  refine (advance_w w o L p n la es s ps v e y t hW hn (b7 v hvp) hy hp hs' b1 b2 b3 hla (by omega) (b6 v hvp) (b5 y) (by omega)).mono ?_
  rintro e' w' ⟨rfl, o', W', s'⟩
  exact ⟨rfl, o', _, ⟨W', hG', hla, hid⟩, hne, hmo, by omega, s'⟩
theorem stuck_v (w : World) (o : Nat → Nat) (L p n la : Nat) (es : List EdT) (τ : Nat) (s : Dst) (ps : List Nat) (v : Nat) (h : Wv w o L p n la es τ s) (hp : s.path = ps ++ [v]) :
    Calls Try.prog 32 #[.pointer (some ⟨p, 0, none⟩)] w fun e w' => e = .returned (.bool ((s.st v).length == 0)) ∧ ∃ m, w' = w.drewN m := by
  obtain ⟨hW, hG, hla, hid⟩ := h
  obtain ⟨b1, b2, b3, b4, b5, b6, b7, b8, b9⟩ := hG.bounds
  have hvp : v ∈ s.path := by rw [hp]; simp
  have hn : n ≤ 64 := hG.2.2.2.1
  have hl : s.path.length = ps.length + 1 := by rw [hp]; simp
  exact stuck_w w o L p n la es s ps v hW hn hp (by omega) (b7 v hvp)
/-- Where the walk stands between two steps. -/
def Thr (w : World) (o : Nat → Nat) (L p n la : Nat) (es : List EdT) (τ : Nat) (s0 : Dst) (v : Nat) (s : Dst) (wr : World) : Prop :=
  ∃ o', Wv wr o' L p n la es τ s ∧ (∀ x, 0 < s0.tn x ∨ x = v → 0 < s.tn x) ∧ Step (WL L) w o wr o'

set_option maxRecDepth 100000 in
theorem through_v (w : World) (o : Nat → Nat) (L p n la : Nat) (es : List EdT) (s : Dst) (v : Nat) (h : Wv w o L p n la es s.turns s) (hp : s.path = []) (hv : v < n) (h0 : s.tn v = 0) :
    Calls Try.prog 20 #[.pointer (some ⟨p, 0, none⟩), .int .i64 (v : Nat)] w fun e' w' => e' = .returned (.tuple #[]) ∧ ∃ s', Thr w o L p n la es s.turns s v s' w' ∧ s'.path = [] := by
  obtain ⟨hW, hG, hla, hid⟩ := h
  obtain ⟨b1, b2, b3, b4, b5, b6, b7, b8, b9⟩ := hG.bounds
  have hn : n ≤ 64 := hG.2.2.2.1
  have hen := enter_w w o L p n la es s v (-1) hW hn hv b1 b2 b3 hla (by omega) (by omega)
  obtain ⟨hG1, hmo1, hv1, hp1⟩ := hG.start rfl hv hp h0
  have HG1 : Hid (Gv (ends es) n s.turns (enterS s v (-1)) ∧ (∀ x, 0 < s.tn x → 0 < (enterS s v (-1)).tn x) ∧ 0 < (enterS s v (-1)).tn v ∧ (enterS s v (-1)).path = [v]) := ⟨hG1, hmo1, hv1, hp1⟩
  generalize hτ : s.turns = τ at *
  clear hG hp hp1 hG1 hmo1 hv1 b1 b2 b3 b4 b5 b6 b7 b8 b9 hW
  go_enter Try.func20, Try.ntmps20
  go_step3
  go_wp2_with fail
  refine hen.mono ?_
  rintro e w1 ⟨rfl, o1, W1, s1⟩
  obtain ⟨g1, g2, g3, g4⟩ := HG1.out
  have START : ∃ s', Thr w o L p n la es τ s v s' w1 ∧ s'.path ≠ [] := ⟨enterS s v (-1), ⟨o1, ⟨W1, g1, hla, hid⟩, fun x hx => hx.elim (g2 x) (fun q => q ▸ g3), s1⟩, by rw [g4]; simp⟩
  clear HG1 g1 g2 g3 g4 W1 s1 hen hτ hla hid
  obtain ⟨t0, T0, P0⟩ := START
  go_wp2_with fail
  go_step3
  go_wp2_with fail
  go_loopg [8] (lfS n t0) (fun gh _ wr => ∃ s', gh = lfS n s' ∧ Thr w o L p n la es τ s v s' wr ∧ s'.path ≠ [])
  case atStart => exact ⟨t0, rfl, T0, P0⟩
  case round =>
    clear T0 P0
    obtain ⟨t1, rfl, T1, P1⟩ := hrel
    go_wp2_with fail
    go_loopg [8] t1.path.length (fun gh2 _ wx => ∃ s', gh2 = s'.path.length ∧ lfS n s' = lfS n t1 ∧ Thr w o L p n la es τ s v s' wx ∧ s'.path ≠ [])
    case atStart => exact ⟨t1, rfl, rfl, T1, P1⟩
    case round =>
      clear T1 P1
      obtain ⟨t2, rfl, hlf, T2, P2⟩ := hrel
      obtain ⟨o2, V2, M2, S2⟩ := T2
      obtain ⟨ps, x, hpx⟩ : ∃ ps x, t2.path = ps ++ [x] := ⟨_, _, (List.dropLast_concat_getLast P2).symm⟩
      have hst := stuck_v wr o2 L p n la es τ t2 ps x V2 hpx
      have HPX : Hid (t2.path = ps ++ [x]) := hpx
      have hlen : t2.path.length = ps.length + 1 := by rw [hpx]; simp
      have HLN : Hid (t2.path.length = ps.length + 1) := hlen
      clear hpx P2 hlen
      go_wp2_with fail
      refine hst.mono ?_
      rintro e w2 ⟨rfl, m, rfl⟩
      have V3 : Wv (wr.drewN m) o2 L p n la es τ t2 := V2
      have S3 : Step (WL L) w o (wr.drewN m) o2 := S2.drewN m
      clear V2 S2 hst
      generalize wr.drewN m = w3 at V3 S3 ⊢
      by_cases hb : (t2.st x).length = 0
      · have hlv := leave_v w3 o2 L p n la es τ t2 ps x V3 HPX.out (List.length_eq_zero_iff.1 hb)
        have hbb : ((t2.st x).length == 0) = true := by rw [hb]; rfl
        clear V3 hb
        go_wp2_with fail
        refine hlv.mono ?_
        rintro e w4 ⟨rfl, o4, t4, V4, P4, T4, L4, S4⟩
        have S5 := S3.trans S4
        have HN : Hid (Wv w4 o4 L p n la es τ t4 ∧ (∀ y, 0 < s.tn y ∨ y = v → 0 < t4.tn y) ∧ Step (WL L) w o w4 o4 ∧ t4.path = ps ∧ lfS n t4 = lfS n t1) := ⟨V4, fun y hy => by rw [T4]; exact M2 y hy, S5, P4, by rw [← hlf]; unfold lfS; rw [L4]⟩
        obtain ⟨gp, cp, gb, cb, vp, vo, ve, vr, vs, hk⟩ := V4.1
        obtain ⟨c0, c1, c2, c3, c4, c5, c6, hf⟩ := hk.1.cells7
        obtain ⟨av, cv, hvp⟩ := hk.2.2.2.1.form
        rw [hvp, P4] at c2
        have hlp : ps.length ≤ 64 := by have := V4.2.1.bounds.2.1; rw [P4] at this; exact this
        clear V4 S4 S5 S3 M2 T4 L4 hlv hk c0 c1 c3 c4 c5 c6 hf HPX hvp P4 hlf
        by_cases h00 : ps.length = 0
        · have hps : ps = [] := List.length_eq_zero_iff.1 h00
          subst hps
          simp only [List.length_nil] at c2
          go_wp2
          rw [Exit.noGoto_normal]
          go_end0
          obtain ⟨n1, n2, n3, n4, n5⟩ := HN.out
          exact ⟨rfl, t4, ⟨o4, n1, n2, n3⟩, n4⟩
        · have hz : ((ps.length : Int) == 0) = false := by simp only [beq_eq_false_iff_ne, ne_eq]; omega
          go_wp2
          go_roundg ps.length
          case measure => have := HLN.out; omega
          case rel =>
            obtain ⟨n1, n2, n3, n4, n5⟩ := HN.out
            exact ⟨t4, by rw [n4], n5, ⟨o4, n1, n2, n3⟩, by rw [n4]; intro q; exact h00 (by rw [q]; rfl)⟩
      · have hbb : ((t2.st x).length == 0) = false := by simp only [beq_eq_false_iff_ne, ne_eq]; exact hb
        have had := advance_v w3 o2 L p n la es τ t2 ps x V3 HPX.out (fun q => hb (by rw [q]; rfl))
        clear V3 hb
        go_wp2_with fail
        refine had.mono ?_
        rintro e w4 ⟨rfl, o4, t4, V4, P4, M4, L4, S4⟩
        have HN : Hid ((∃ s', lfS n t4 = lfS n s' ∧ Thr w o L p n la es τ s v s' w4 ∧ s'.path ≠ []) ∧ lfS n t4 < lfS n t1) := ⟨⟨t4, rfl, ⟨o4, V4, fun y hy => M4 y (M2 y hy), S3.trans S4⟩, P4⟩, by omega⟩
        clear V4 P4 M4 L4 S4 S3 M2 had hlf
        go_wp2
        go_roundg (lfS n t4)
        case measure => exact HN.out.2
        case rel => exact HN.out.1
end Go.Proofs.Ytanahbkkgppfnaa
