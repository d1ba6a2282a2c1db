/- Labels are ghosts: those of one range are laid anew. -/
import Derived.Test.YtmpkhbblakfglaaDoorFComb9
import Derived.Test.YtmpkhbblakfglaaDoorFSame9
namespace Go.Proofs.YtmpkhbblakfglaaDoor
open Go.ChangeShapes Go.WideShapes Go.ChangeAt Go.RowKit Go.Maps
set_option linter.unusedVariables false
set_option linter.unusedSimpArgs false

theorem Row.lab {w : World} {o o' : Nat → Nat} {i j : Nat} {e : TypeId} {size : Nat} {v : Value} {n : Nat} {xs : List Value} (h : Row w o i e size v n xs) (hl : ∀ k, k < w.heap.size → o k = i → o' k = j) : Row w o' j e size v n xs :=
  ⟨h.1, fun k hk => hl k (h.lt hk) (h.2 k hk)⟩
theorem Blk.lab {w : World} {o o' : Nat → Nat} {i j b : Nat} {ob : Obj} (h : Blk w o i b ob) (hl : ∀ k, k < w.heap.size → o k = i → o' k = j) : Blk w o' j b ob := ⟨h.1, hl b h.lt h.2⟩
theorem SfM.lab {w : World} {o o' : Nat → Nat} {i j b m : Nat} {F : ByteArray → Option Nat} (h : SfM w o i b m F) (hl : ∀ k, k < w.heap.size → o k = i → o' k = j) : SfM w o' j b m F := by
  obtain ⟨D, h1, h2, h3, h4⟩ := h
  exact ⟨D, h1, h2, hl b h1.lt h3, h4⟩
/-- The scratch labels of both sides. -/
def SP (k : Nat) : Prop := (1001002 ≤ k ∧ k < 1300000) ∨ (2001002 ≤ k ∧ k < 2300000)
/-- o' tells the labels that o tells, but for scratch ones. -/
def Rl (w : World) (o o' : Nat → Nat) : Prop := ∀ k, k < w.heap.size → ¬ SP (o k) → o' k = o k
theorem Rl.at {w : World} {o o' : Nat → Nat} (h : Rl w o o') {i : Nat} (hi : ¬ SP i) : ∀ k, k < w.heap.size → o k = i → o' k = i := fun k hk e => by rw [h k hk (by rw [e]; exact hi), e]
theorem SQ.lab {B ps pf px N : Nat} {ls : List (List ByteArray)} {F : ByteArray → Option Nat} {m : Nat} {NL : List ByteArray} {xs : List Nat} {m2 : Nat} {w : World} {o o' : Nat → Nat} (hB : B = 1000000 ∨ B = 2000000) (h : SQ B ps pf px N ls F m NL xs m2 w o) (hl : Rl w o o') : SQ B ps pf px N ls F m NL xs m2 w o' := by
  obtain ⟨va, vw, als, wls, hK, ⟨b, hF1, hF2⟩, ⟨a', b', ao, ca, so, cs, hR⟩, hT, hW⟩ := h
  have hN := hK.lt.le
  rw [hK.ln] at hN
  have hn := hK.ln
  have qa := hR.la
  have qb := hR.lb
  have at' : ∀ i, ¬ SP i → ∀ k, k < w.heap.size → o k = i → o' k = i := fun i hi => hl.at hi
  refine ⟨va, vw, als, wls, ⟨hK.blk.lab (at' _ (by unfold SP; omega)), hK.ra.lab (at' _ (by unfold SP; omega)), hK.rw.lab (at' _ (by unfold SP; omega)), ⟨hK.lt.la, hK.lt.lw, hK.lt.le, hK.lt.len, fun i hi => (hK.lt.all i hi).lab (at' _ (by unfold SP; omega)), fun i hi => (hK.lt.was i hi).lab (at' _ (by unfold SP; omega))⟩, hK.ln⟩, ⟨b, hF1.lab (at' _ (by unfold SP; omega)), hF2.lab (at' _ (by unfold SP; omega))⟩, ⟨a', b', ao, ca, so, cs, hR.blk.lab (at' _ (by unfold SP; omega)), hR.nr.lab (at' _ (by unfold SP; omega)), hR.sr.lab (at' _ (by unfold SP; omega)), hR.la, hR.lb, hR.ln, hR.lx⟩, ⟨hT.1, ?_⟩, ⟨hW.1, ?_⟩⟩
  · exact at' 0 (by unfold SP; omega) _ hT.1.2 hT.2
  · exact at' 0 (by unfold SP; omega) _ hW.1.lt hW.2
theorem SX.lab {B ps : Nat} {w : World} {o o' : Nat → Nat} (hB : B = 1000000 ∨ B = 2000000) (h : SX B ps w o) (hl : Rl w o o') : SX B ps w o' := by
  obtain ⟨pf, px, N, ls, F, m, NL, xs, f, q⟩ := h
  exact ⟨pf, px, N, ls, F, m, NL, xs, f, q.lab hB hl⟩
/-- No scratch label is there. -/
def Cl (o : Nat → Nat) : Prop := ∀ k, ¬ SP (o k)
def clean (o : Nat → Nat) : Nat → Nat := fun k => if (1001002 ≤ o k ∧ o k < 1300000) ∨ (2001002 ≤ o k ∧ o k < 2300000) then 95 else o k
theorem clean_cl (o : Nat → Nat) : Cl (clean o) := fun k => by
  unfold clean SP
  split <;> omega
theorem clean_rl (o : Nat → Nat) (w : World) : Rl w o (clean o) := fun k hk hn => by
  unfold clean
  unfold SP at hn
  rw [if_neg hn]
theorem Step.cleaned {I : Nat → Prop} {w w' : World} {o o' : Nat → Nat} (h : Step I w o w' o') (hc : Cl o) : Step I w o w' (clean o') :=
  ⟨h.os, h.tape, h.output, h.size, fun k hk => by
    have e := h.lab k hk
    have := hc k
    unfold clean
    unfold SP at this
    rw [e, if_neg this], h.block⟩
/-- Labels behind Same: the outer slice is 94, group i is of the lists that are kept while there is room. -/
def gl (B N i : Nat) : Nat := if N + i < 40 then B + 500 + (N + i) else 93
def r7 (B N : Nat) (o : Nat → Nat) : Nat → Nat := fun k => if o k = B + 1004 then 94 else if B + 1010 ≤ o k ∧ o k < B + 1100 then gl B N (o k - (B + 1010)) else if (1001002 ≤ o k ∧ o k < 1300000) ∨ (2001002 ≤ o k ∧ o k < 2300000) then 95 else o k
theorem r7_rl {B N : Nat} (hB : B = 1000000 ∨ B = 2000000) (o : Nat → Nat) (w : World) : Rl w o (r7 B N o) := fun k hk hn => by
  unfold r7
  unfold SP at hn
  rw [if_neg (by omega), if_neg (by omega), if_neg hn]
theorem Step.r7d {I : Nat → Prop} {w w' : World} {o o' : Nat → Nat} {B N : Nat} (hB : B = 1000000 ∨ B = 2000000) (h : Step I w o w' o') (hc : Cl o) : Step I w o w' (r7 B N o') :=
  ⟨h.os, h.tape, h.output, h.size, fun k hk => by
    have e := h.lab k hk
    have := hc k
    unfold r7
    unfold SP at this
    rw [e, if_neg (by omega), if_neg (by omega), if_neg this], h.block⟩
theorem GrpM.r7d {w : World} {o : Nat → Nat} {B N : Nat} {v : Value} {G : Grp} (hG : G.length ≤ 16) (h : GrpM w o (B + 1004) (B + 1010) v G) : ∃ vs, Row w (r7 B N o) 94 28 1 v G.length vs ∧ ∀ i (h : i < G.length), ∃ u, vs[i]? = some u ∧ Row w (r7 B N o) (gl B N i) 9 1 u (G[i]).2.length (strsL (G[i]).2) := by
  obtain ⟨vs, hR, hr⟩ := h
  refine ⟨vs, hR.lab (fun k _ e => by unfold r7; rw [if_pos e]), fun i hi => ?_⟩
  obtain ⟨u, h1, h2⟩ := hr i hi
  refine ⟨u, h1, h2.lab (fun k _ e => ?_)⟩
  unfold r7
  rw [if_neg (by omega), if_pos (by omega), show o k - (B + 1010) = i by omega]
theorem Row.keep {w w' : World} {o : Nat → Nat} {i : Nat} {e : TypeId} {size : Nat} {v : Value} {n : Nat} {xs : List Value} (h : Row w o i e size v n xs) (hb : ∀ k, k < w.heap.size → o k = i → w'.heap[k]? = w.heap[k]?) : Row w' o i e size v n xs := by
  refine ⟨⟨h.1.1, ?_⟩, h.2⟩
  rcases h.1.2 with hn | ⟨g, cap, cur, rfl, h1, hgg, rest⟩
  · exact .inl hn
  · refine .inr ⟨g, cap, cur, rfl, h1, ?_, rest⟩
    rw [hb g (lt_of_block hgg) (h.2 g rfl)]
    exact hgg
theorem GrpM.keep {w w' : World} {o : Nat → Nat} {lo lb : Nat} {v : Value} {G : Grp} (h : GrpM w o lo lb v G) (hb : ∀ k, k < w.heap.size → (o k = lo ∨ ∃ i, i < G.length ∧ o k = lb + i) → w'.heap[k]? = w.heap[k]?) : GrpM w' o lo lb v G := by
  obtain ⟨vs, hR, hr⟩ := h
  refine ⟨vs, hR.keep (fun k hk e => hb k hk (.inl e)), fun i hi => ?_⟩
  obtain ⟨u, h1, h2⟩ := hr i hi
  exact ⟨u, h1, h2.keep (fun k hk e => hb k hk (.inr ⟨i, hi, e⟩))⟩
end Go.Proofs.YtmpkhbblakfglaaDoor
