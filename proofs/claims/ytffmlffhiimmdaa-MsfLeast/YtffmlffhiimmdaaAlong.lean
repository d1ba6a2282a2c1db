/- The way between two vertices of one tree: its edges, the heaviest one. -/
import Derived.Test.YtffmlffhiimmdaaLink5
namespace Go.Proofs.Ytffmlffhiimmdaa
open Go.ChangeShapes Go.WideShapes Go.ChangeAt Go.RowKit Go.Maps
set_option linter.unusedVariables false

/-- What a look along a way may write. -/
def AL (L lb : Nat) : Nat → Prop := fun k => NL L k ∨ k = L + 3 ∨ k = L + 4 ∨ k = lb
def way (R : Nat → List Nat) (u v : Nat) : List Nat := tn (R (2 * u + 1)) (R (2 * v + 1))
theorem Blk.cell1 {w : World} {o : Nat → Nat} {i b : Nat} {a0 : Value} {t : TypeId} (h : Blk w o i b (.cells #[a0] t (0, 0))) :
    w.cell? ⟨b, 0, none⟩ = some a0 ∧ ∀ j, w.frozen? ⟨b, j, none⟩ = false := by
  refine ⟨?_, fun j => frozen_of_row w b j _ t h.1⟩
  simp [cell_of_row w b _ _ t (0, 0) h.1]
theorem Blk.cell4 {w : World} {o : Nat → Nat} {i b : Nat} {a0 a1 a2 a3 : Value} {t : TypeId} (h : Blk w o i b (.cells #[a0, a1, a2, a3] t (0, 0))) :
    (w.cell? ⟨b, 0, none⟩ = some a0 ∧ w.cell? ⟨b, 1, none⟩ = some a1 ∧ w.cell? ⟨b, 2, none⟩ = some a2 ∧ w.cell? ⟨b, 3, none⟩ = some a3) ∧ ∀ j, w.frozen? ⟨b, j, none⟩ = false := by
  refine ⟨⟨?_, ?_, ?_, ?_⟩, fun j => frozen_of_row w b j _ t h.1⟩ <;> simp [cell_of_row w b _ _ t (0, 0) h.1]

theorem Blk.stp2 {w : World} {o : Nat → Nat} {i b : Nat} {ob : Obj} (h : Blk w o i b ob) (j : Nat) (u : Value) : Step (fun k => k = i) w o (w.setCell ⟨b, j, none⟩ u) o := setStep _ w o ⟨b, j, none⟩ u h.2
/-- The captured list of IDs. -/
def QP (L lb bx : Nat) (W : List Nat) (w : World) (o : Nat → Nat) : Prop := ∃ v, Blk w o (L + 3) bx (.cells #[v] 41 (0, 0)) ∧ Row w o lb 3 1 v (idl W).length (intsL (idl W))
/-- The captured edge. -/
def QM (L bx : Nat) (E : Nat → Ed) (W : List Nat) (w : World) (o : Nat → Nat) : Prop := ∃ t, (TopE E W t ∧ t ≠ 0) ∧ Blk w o (L + 3) bx (.cells #[.int .i64 ((t - 2) / 2 : Nat), .int .i64 (E t).u, .int .i64 (E t).v, .int .i64 (E t).w] 43 (0, 0))

theorem most_clo (w : World) (o : Nat → Nat) (L lb : Nat) (live : Nat → Prop) (pt : Nat → Nat) (E : Nat → Ed) (nd : Nat → Ln) (hv : Nat → Nat) (T S : Nat → List Nat) (P : Nat → Nat) (n bx : Nat) (a0 a1 a2 a3 : Value) (G : Gw w o L live pt E nd hv T S P) (nl : live n) (h0 : hv n ≠ 0) (hB : Blk w o (L + 3) bx (.cells #[a0, a1, a2, a3] 43 (0, 0))) :
    Calls Try.prog 55 #[.pointer (some ⟨pt n, 0, none⟩), .pointer (some ⟨bx, 0, none⟩)] w fun e w' => e = .returned (.tuple #[]) ∧ ∃ o', (∃ nd' hv' T', Gw w' o' L live pt E nd' hv' T' S P) ∧ QM L bx E (T n) w' o' ∧ Step (AL L lb) w o w' o' := by
  have hn3 : ¬ NL L (L + 3) := fun h => by have := h.1; omega
  have c6 := (G.m.node nl).hv
  rw [pqn pt h0] at c6
  obtain ⟨lh, eh⟩ := G.v.hc G.c n nl h0
  obtain ⟨d7, d8, d9, d10⟩ := G.m.edge lh eh
  obtain ⟨⟨b0, b1, b2, b3⟩, fb⟩ := hB.cell4
  have tt := G.v n nl
  have e0 := hB.stp2 0 (.int .i64 ((hv n - 2) / 2 : Nat))
  have B1 := hB.set 0 (.int .i64 ((hv n - 2) / 2 : Nat))
  have e1 := B1.stp2 1 (.int .i64 (E (hv n)).u)
  have B2 := B1.set 1 (.int .i64 (E (hv n)).u)
  have e2 := B2.stp2 2 (.int .i64 (E (hv n)).v)
  have B3 := B2.set 2 (.int .i64 (E (hv n)).v)
  have e3 := B3.stp2 3 (.int .i64 (E (hv n)).w)
  have B4 := B3.set 3 (.int .i64 (E (hv n)).w)
  simp only [Array.setIfInBounds, List.size_toArray, List.length_cons, List.length_nil] at B4
  have s4 := ((e0.trans e1).trans e2).trans e3
  have G4 := G.step s4 (fun k hk x => hn3 (x ▸ hk))
  have B5 : Blk _ o (L + 3) bx (.cells #[.int .i64 ((hv n - 2) / 2 : Nat), .int .i64 (E (hv n)).u, .int .i64 (E (hv n)).v, .int .i64 (E (hv n)).w] 43 (0, 0)) := B4
  have q : QM L bx E (T n) _ o := ⟨hv n, ⟨tt, h0⟩, B5⟩
  have s5 := s4.mono (J := AL L lb) fun k hk => .inr (.inl hk)
  clear G hB B1 B2 B3 B4 B5 e0 e1 e2 e3 s4
  generalize (((hv n - 2) / 2 : Nat) : Int) = iv at d7 q s5 G4
  go_enter Try.func55, Try.ntmps55
  go_wp2
  go_end0
  exact ⟨rfl, o, ⟨nd, hv, T, G4⟩, q, s5⟩

set_option maxRecDepth 100000 in
set_option maxHeartbeats 4000000 in
theorem along_most (w : World) (o : Nat → Nat) (L p n : Nat) (ed : Nat → Option Ed) (R : Nat → List Nat) (m u v lb bx : Nat) (X : Tx w o L p n ed R m) (hu : u < n) (hv : v < n) (hd : (R (2 * u + 1)).head? = (R (2 * v + 1)).head?) (hlb : ¬ TL L lb) (hB : Blk w o (L + 3) bx (.cells #[.int .i64 0, .int .i64 0, .int .i64 0, .int .i64 0] 43 (0, 0))) (hne : ∃ k ∈ way R u v, k % 2 = 0) :
    Calls Try.prog 54 #[.pointer (some ⟨p, 0, none⟩), .int .i64 u, .int .i64 v, .func (.func 55) #[] #[.pointer (some ⟨bx, 0, none⟩)]] w fun e w' => e = .returned (.tuple #[]) ∧ ∃ o', Tx w' o' L p n ed R m ∧ QM L bx (edE ed) (way R u v) w' o' ∧ Step (AL L lb) w o w' o' := by
  obtain ⟨X0, pt, bv, cap, bm, TB, F⟩ := X
  have hT := F.rt
  have lu : liveN n ed (2 * u + 1) := liveN_v hu
  have lv : liveN n ed (2 * v + 1) := liveN_v hv
  have c0 := TB.cells.1
  have cu := TB.vert hu
  have bu : (u : Int) < (n : Int) := by omega
  have bv1 : (v : Int) < (n : Int) := by omega
  have hn3 : ¬ NL L (L + 3) := fun h => by have := h.1; omega
  have hA3 : ∀ k, L ≤ k → k ≤ L + 2 → ¬ AL L lb k := fun k a b h => by
    rcases h with h | h | h | h
    · exact NL.tb a b h
    · omega
    · omega
    · exact hlb ⟨by omega, by omega⟩
  have hA4 : ∀ k, NL L k → AL L lb k := fun k hk => .inl hk
  have hc1 := root_fg w o L _ pt _ R (2 * u + 1) F lu
  go_enter Try.func54, Try.ntmps54
  go_wp2_with fail
  refine hc1.mono ?_
  rintro e w1 ⟨r, rfl, hr, F1, s1⟩
  have TB1 := TB.step s1 (fun k => NL.tb)
  have B1 := hB.step s1 hn3
  have c10 := TB1.cells.1
  have cu1 := TB1.vert hu
  have hc2 := evert_fg w1 o L _ pt _ R (2 * u + 1) F1 lu
  clear hc1 c0 cu TB hB F
  go_wp2_with fail
  refine hc2.mono ?_
  rintro e w2 ⟨rfl, F2, s2⟩
  have s2 := s1.trans s2
  have TB2 := TB1.step (by assumption : Step (NL L) w1 o w2 o) (fun k => NL.tb)
  have B2 := B1.step (by assumption : Step (NL L) w1 o w2 o) hn3
  have c20 := TB2.cells.1
  have cv2 := TB2.vert hv
  obtain ⟨nd2, hv2, T2, S2, P2, G2, hR2, hT2⟩ := F2
  have hc3 := expose_any w2 o L _ pt _ _ nd2 hv2 T2 S2 P2 (2 * v + 1) G2 hR2 lv
  clear hc2 c10 cu1 TB1 B1 F1
  go_wp2_with fail
  refine hc3.mono ?_
  rintro e w3 ⟨rfl, nd3, hv3, T3, S3, P3, G3, ⟨hR3, s3, p3, t3, tw3, _⟩, sx3⟩
  have s23 := s2.trans sx3
  have TB3 := TB2.step sx3 (fun k => NL.tb)
  have B3 := B2.step sx3 hn3
  have c30 := TB3.cells.1
  have cv3 := TB3.vert hv
  have eW : T3 (2 * v + 1) = way R u v := by
    rw [(G3.c.top _ lv t3).1, s3]
    exact turnR_in hd.symm
  have hc4 := most_clo w3 o L lb _ pt _ nd3 hv3 T3 S3 P3 (2 * v + 1) bx _ _ _ _ G3 lv (fun h0 => by
    have := G3.v _ lv
    rw [h0, eW] at this
    obtain ⟨k, hk, ek⟩ := hne
    rcases this with ⟨_, a⟩ | ⟨a, _⟩
    · have := a k hk; omega
    · exact a rfl) B3
  rw [eW] at hc4
  clear hc3 c20 cv2 TB2 B2 G2 hR2
  go_wp2_with fail
  refine hc4.mono ?_
  rintro e w4 ⟨rfl, o4, ⟨nd4, hv4, T4, G4⟩, q4, s4⟩
  have TB4 := TB3.step s4 hA3
  have s24 := (s23.mono hA4).trans s4
  have F4 : Fg w4 o4 L (liveN n ed) pt (edE ed) (turnR R (2 * u + 1)) := ⟨nd4, hv4, T4, S3, P3, G4, hR3, hT2⟩
  have hc5 := evert_fg w4 o4 L _ pt _ _ r F4 hr.2
  clear hc4 c30 cv3 TB3 B3 G3 G4
  go_wp2_with fail
  refine hc5.mono ?_
  rintro e w5 ⟨rfl, F5, s5⟩
  have TB5 := TB4.step s5 (fun k => NL.tb)
  have hr1 : R r = [r] := by
    obtain ⟨z, h1, _, h3⟩ := hT.head lu
    rw [hr.1] at h1; simp at h1; rw [h1]; exact h3
  have F6 := F5.congr (R' := R) (fun k lk => by
    rw [hT.turn_turn lu hr.2 lk (show OneT R r (2 * u + 1) from by unfold OneT; rw [hr1, hr.1]; rfl), hT.turn_root hr.2 lk hr1])
  have q5 : QM L bx (edE ed) (way R u v) w5 o4 := by
    obtain ⟨t, qa, qb⟩ := q4
    exact ⟨t, qa, qb.step s5 hn3⟩
  have s25 := s24.trans (s5.mono hA4)
  clear hc5 F4 F5 TB4 q4
  go_wp2
  go_end0
  exact ⟨rfl, o4, ⟨X0, pt, bv, cap, bm, TB5, F6⟩, q5, s25⟩

end Go.Proofs.Ytffmlffhiimmdaa
