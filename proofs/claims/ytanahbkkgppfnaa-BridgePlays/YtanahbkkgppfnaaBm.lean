/- A walk in memory. -/
import Derived.Test.YtanahbkkgppfnaaBase8
namespace Go.Proofs.Ytanahbkkgppfnaa
open Go.ChangeShapes Go.WideShapes Go.ChangeAt Go.RowKit
set_option linter.unusedVariables false

/-- The ID of an edge, by its place. -/
def idn (es : List EdT) (e : Nat) : Nat := ((es[e]?).map fun x => x.id.toNat).getD 0
/-- Of each place four cells. -/
def plc (vs : Nat → Value) (s : Dst) (n : Nat) : List Value := pl4 vs (fun x => .int .i64 (s.ba x)) (fun x => .int .i64 (s.tn x : Nat)) (fun x => .int .i64 (s.lw x : Nat)) n
/-- The struct's cells. -/
def Wk (w : World) (o : Nat → Nat) (L p n la : Nat) (es : List EdT) (s : Dst) (gp cp gb cb : Nat) (vp vo ve vr : Value) (vs : Nat → Value) : Prop :=
  Blk w o L p (.cells #[.slice (some ⟨gp, 0, none⟩) n cp, .int .i64 (s.turns : Nat), vp, vo, ve, vr, .slice (some ⟨gb, 0, none⟩) n cb] 56 (0, 0)) ∧
  Row w o (L + 1) 66 4 (.slice (some ⟨gp, 0, none⟩) n cp) n (plc vs s n) ∧
  (∀ x, x < n → VwS w o (L + 10 + x) (vs x) (s.st x)) ∧
  Row w o (L + 2) 3 1 vp s.path.length (intsL s.path) ∧
  Row w o (L + 3) 3 1 vo s.op.length (intsL s.op) ∧
  VwE w o la ve es ∧
  Row w o (L + 4) 3 1 vr s.br.length (intsL (s.br.map (idn es))) ∧
  Row w o (L + 5) 3 1 (.slice (some ⟨gb, 0, none⟩) n cb) n (natsF s.bl n)
def Wm (w : World) (o : Nat → Nat) (L p n la : Nat) (es : List EdT) (s : Dst) : Prop := ∃ gp cp gb cb vp vo ve vr vs, Wk w o L p n la es s gp cp gb cb vp vo ve vr vs
/-- Its labels. -/
def WL (L : Nat) : Nat → Prop := fun k => L ≤ k ∧ k < L + 100
theorem Wk.step {I : Nat → Prop} {w w' : World} {o o' : Nat → Nat} {L p n la : Nat} {es : List EdT} {s : Dst} {gp cp gb cb : Nat} {vp vo ve vr : Value} {vs : Nat → Value} (hn : n ≤ 64) (h : Wk w o L p n la es s gp cp gb cb vp vo ve vr vs) (st : Step I w o w' o') (hi : ∀ k, (L ≤ k ∧ k < L + 6) ∨ (L + 10 ≤ k ∧ k < L + 74) → ¬ I k) (hla : ¬ I la) : Wk w' o' L p n la es s gp cp gb cb vp vo ve vr vs := by
  obtain ⟨h1, h2, h3, h4, h5, h6, h7, h8⟩ := h
  exact ⟨h1.step st (hi _ (by omega)), h2.step st (hi _ (by omega)), fun x hx => (h3 x hx).step st (hi _ (by omega)), h4.step st (hi _ (by omega)), h5.step st (hi _ (by omega)), h6.step st hla, h7.step st (hi _ (by omega)), h8.step st (hi _ (by omega))⟩

theorem seen_w (w : World) (o : Nat → Nat) (L p n la : Nat) (es : List EdT) (s : Dst) (x : Nat) (h : Wm w o L p n la es s) (hn : n ≤ 64) (hx : x < n) :
    Calls Try.prog 19 #[.pointer (some ⟨p, 0, none⟩), .int .i64 (x : Nat)] w fun e w' => e = .returned (.bool (decide (0 < s.tn x))) ∧ w' = w := by
  obtain ⟨gp, cp, gb, cb, vp, vo, ve, vr, vs, h1, h2, h3, h4, h5, h6, h7, h8⟩ := h
  obtain ⟨c0, c1, c2, c3, c4, c5, c6, hf⟩ := h1.cells7
  obtain ⟨g, cap, hv, hg, hc, hm, hlt, hcell, hfr⟩ := h2.pos (by omega)
  simp only [Value.slice.injEq, Option.some.injEq, Addr.mk.injEq, and_true, true_and] at hv
  obtain ⟨rfl, rfl⟩ := hv
  have k2 := (hcell (x * 4 + 2) (by omega)).trans (pl4_get _ _ _ _ n x hx).2.2.1
  generalize s.tn x = t at k2
  clear h1 h2 h3 h4 h5 h6 h7 h8 hcell
  have hxI : (x : Int) < (n : Int) := by omega
  go_enter Try.func19, Try.ntmps19
  go_wp2
  go_ret
  exact ⟨rfl, rfl⟩

theorem here_w (w : World) (o : Nat → Nat) (L p n la : Nat) (es : List EdT) (s : Dst) (ps : List Nat) (v : Nat) (h : Wm w o L p n la es s) (hp : s.path = ps ++ [v]) (hl : ps.length ≤ 64) :
    Calls Try.prog 39 #[.pointer (some ⟨p, 0, none⟩)] w fun e w' => e = .returned (.int .i64 (v : Nat)) ∧ ∃ m, w' = w.drewN m := by
  obtain ⟨gp, cp, gb, cb, vp, vo, ve, vr, vs, h1, h2, h3, h4, h5, h6, h7, h8⟩ := h
  obtain ⟨c0, c1, c2, c3, c4, c5, c6, hf⟩ := h1.cells7
  have hlen : s.path.length = ps.length + 1 := by rw [hp]; simp
  rw [hlen] at h4
  obtain ⟨g, cap, rfl, hg, hc, hm, hlt, hcell, hfr⟩ := h4.pos (by omega)
  have k := (hcell ps.length (by omega)).trans (intsL_get s.path ps.length (by omega))
  have k2 : s.path[ps.length] = v := by simp [hp]
  rw [k2] at k
  unfold maxLen at hm
  clear h1 h2 h3 h4 h5 h6 h7 h8 hcell k2
  go_enter Try.func39, Try.ntmps39
  go_wp2
  go_quiet (fail)
  go_wp2
  go_ret
  exact ⟨rfl, _, rfl⟩

theorem stuck_w (w : World) (o : Nat → Nat) (L p n la : Nat) (es : List EdT) (s : Dst) (ps : List Nat) (v : Nat) (h : Wm w o L p n la es s) (hn : n ≤ 64) (hp : s.path = ps ++ [v]) (hl : ps.length ≤ 64) (hv : v < n) :
    Calls Try.prog 32 #[.pointer (some ⟨p, 0, none⟩)] w fun e w' => e = .returned (.bool ((s.st v).length == 0)) ∧ ∃ m, w' = w.drewN m := by
  have hh := fun wx hx => here_w wx o L p n la es s ps v hx hp hl
  have hw := h
  obtain ⟨gp, cp, gb, cb, vp, vo, ve, vr, vs, h1, h2, h3, h4, h5, h6, h7, h8⟩ := h
  obtain ⟨c0, c1, c2, c3, c4, c5, c6, hf⟩ := h1.cells7
  obtain ⟨g, cap, hv', hg, hc, hm, hlt, hcell, hfr⟩ := h2.pos (by omega)
  simp only [Value.slice.injEq, Option.some.injEq, Addr.mk.injEq, and_true, true_and] at hv'
  obtain ⟨rfl, rfl⟩ := hv'
  have k0 := (hcell (v * 4) (by omega)).trans (pl4_get _ _ _ _ n v hv).1
  obtain ⟨ao, ca, hvs, q1, q2, _⟩ := h3 v hv
  rw [hvs] at k0
  unfold maxLen at q2
  have hb : ((s.st v).length == 0) = ((((s.st v).length : Nat) : Int) == 0) := by
    cases hq : (s.st v).length with
    | zero => rfl
    | succ k => simp; omega
  rw [hb]
  generalize (s.st v).length = ln at k0 q1
  have hvI : (v : Int) < (n : Int) := by omega
  clear h1 h2 h3 h4 h5 h6 h7 h8 hcell hvs hb
  go_enter Try.func32, Try.ntmps32
  go_wp2
  go_quiet ((go_at_call 39; exact Calls.quiet_of (hh _ hw)))
  go_wp2
  go_ret
  exact ⟨rfl, _, rfl⟩
end Go.Proofs.Ytanahbkkgppfnaa
