/- A list of edges without one of them: the law's own function. -/
import Derived.Test.YtnpfagpgploolaaJoinA
import Derived.Test.YtnpfagpgploolaaApp
namespace Go.Proofs.Ytnpfagpgploolaa
open Go.ChangeShapes Go.WideShapes Go.ChangeAt Go.RowKit Go.Maps
set_option linter.unusedVariables false

/-- Pairs, as they lie in a slice. -/
def pairsL (l : List (Nat × Nat)) : List Value := l.flatMap (fun s => [.int .i64 (s.1 : Nat), .int .i64 (s.2 : Nat)])
theorem pairsL_len (l : List (Nat × Nat)) : (pairsL l).length = l.length * 2 := by
  induction l with
  | nil => rfl
  | cons a l ih => simp only [pairsL, List.flatMap_cons, List.length_append, List.length_cons, List.length_nil] at ih ⊢; omega
theorem pairsL_append (l m : List (Nat × Nat)) : pairsL (l ++ m) = pairsL l ++ pairsL m := by simp [pairsL]
theorem pairsL_get (l : List (Nat × Nat)) (j : Nat) (hj : j < l.length) : (pairsL l)[j * 2]? = some (.int .i64 (l[j].1 : Nat)) ∧ (pairsL l)[j * 2 + 1]? = some (.int .i64 (l[j].2 : Nat)) := by
  have e : l = l.take j ++ l[j] :: l.drop (j + 1) := by rw [← List.drop_eq_getElem_cons hj, List.take_append_drop]
  have e2 : pairsL l = pairsL (l.take j) ++ ([.int .i64 (l[j].1 : Nat), .int .i64 (l[j].2 : Nat)] ++ pairsL (l.drop (j + 1))) := by
    conv => lhs; rw [e]
    rw [pairsL_append]; rfl
  have hl : (pairsL (l.take j)).length = j * 2 := by rw [pairsL_len, List.length_take, Nat.min_eq_left (by omega)]
  rw [e2]
  constructor
  · rw [List.getElem?_append_right (by omega), hl, Nat.sub_self]; rfl
  · rw [List.getElem?_append_right (by omega), hl, show j * 2 + 1 - j * 2 = 1 by omega]; rfl
theorem pairsL_one (l : List (Nat × Nat)) : ∀ u ∈ pairsL l, u.oneCell' = true := fun u hu => by
  obtain ⟨s, _, hs⟩ := List.mem_flatMap.1 hu
  simp at hs
  rcases hs with rfl | rfl <;> rfl
/-- A list of edges that is owned. -/
abbrev RowP (w : World) (o : Nat → Nat) (i : Nat) (v : Value) (l : List (Nat × Nat)) : Prop := Row w o i 49 2 v l.length (pairsL l)
theorem RowP.vw {w : World} {o : Nat → Nat} {i : Nat} {v : Value} {l : List (Nat × Nat)} (h : RowP w o i v l) : VwP w o i v l := by
  by_cases h0 : 0 < l.length
  · obtain ⟨g, cap, rfl, h1, h2, h3, h4, h5, h6⟩ := h.pos h0
    refine ⟨_, cap, rfl, h2, h3, fun _ => ⟨g, 0, rfl, h1, h4, fun j hj => ?_⟩⟩
    obtain ⟨p1, p2⟩ := pairsL_get l j hj
    rw [Nat.zero_add]
    exact ⟨(h5 _ (by omega)).trans p1, (h5 _ (by omega)).trans p2⟩
  · obtain ⟨ao, cap, rfl⟩ := h.form
    rcases h.1.2 with ⟨h1, h2⟩ | ⟨g, cap', cur, h1, _, hg, hc, hm, _⟩
    · rw [Value.slice.injEq] at h1
      obtain ⟨rfl, _, rfl⟩ := h1
      exact ⟨_, _, rfl, by omega, by unfold maxLen; omega, fun h => absurd h h0⟩
    · rw [Value.slice.injEq] at h1
      obtain ⟨rfl, _, rfl⟩ := h1
      exact ⟨_, _, rfl, hc, hm, fun h => absurd h h0⟩
theorem RowP.cells {w : World} {o : Nat → Nat} {i g cap : Nat} {l : List (Nat × Nat)} (r m : Nat) (h : RowP w o i (.slice (some ⟨g, 0, none⟩) l.length cap) l) : ∀ j u, (pairsL ((l.drop r).take m))[j]? = some u → w.cell? ((⟨g, r * 2, none⟩ : Addr).add j) = some u := fun j u hj => by
  have hjl := (List.getElem?_eq_some_iff.1 hj).1
  rw [pairsL_len, List.length_take, List.length_drop] at hjl
  obtain ⟨g', cap', hv', _, _, _, _, hcell', _⟩ := h.pos (by omega)
  simp only [Value.slice.injEq, Option.some.injEq, Addr.mk.injEq, and_true, true_and] at hv'
  obtain ⟨rfl, _⟩ := hv'
  have e : l = l.take r ++ ((l.drop r).take m ++ (l.drop r).drop m) := by rw [List.take_append_drop, List.take_append_drop]
  have hx : (pairsL l)[r * 2 + j]? = some u := by
    rw [e, pairsL_append, pairsL_append, List.getElem?_append_right (by rw [pairsL_len, List.length_take]; omega), pairsL_len, List.length_take, Nat.min_eq_left (by omega), show r * 2 + j - r * 2 = j by omega, List.getElem?_append_left (List.getElem?_eq_some_iff.1 hj).1]
    exact hj
  have := hcell' (r * 2 + j) (by omega)
  rw [hx] at this
  unfold Addr.add
  by_cases j0 : j = 0
  · subst j0; simpa using this
  · simpa [j0] using this

theorem infoPair : (Try.prog.info? 49).map (fun i => (i.zero, i.size, i.bytes)) = some (some (.agg #[.int .i64 0, .int .i64 0]), 2, 16) := by kernel_rfl
set_option maxRecDepth 100000 in
theorem without_l (w : World) (o : Nat → Nat) (la lb k : Nat) (vl : Value) (l : List (Nat × Nat)) (hv : RowP w o la vl l) (hne : la ≠ lb) (hk : k < l.length) (hl : l.length ≤ 1000) :
    Calls Try.prog 22 #[vl, .int .i64 k] w fun e w' => ∃ v' o', e = .returned v' ∧ RowP w' o' lb v' (l.take k ++ l.drop (k + 1)) ∧ Step (fun j => j = lb) w o w' o' := by
  obtain ⟨ii, hii, hzi0, hzi1, hzi2⟩ := info_parts infoPair
  obtain ⟨g, cap, rfl, h1, h2, h3, h4, h5, h6⟩ := hv.pos (by omega)
  unfold maxLen at h3
  clear h5 h6
  have hk1 : (k : Int) ≤ (l.length : Int) := by omega
  have hk2 : (k : Int) ≤ (cap : Int) := by omega
  have hk3 : (k : Int) + 1 ≤ (l.length : Int) := by omega
  have hk4 : (l.length : Int) ≤ (cap : Int) := by omega
  have rn : RowP w o lb (.slice none 0 0) [] := Row.nil _ _ _ _ _
  have c1 := hv.cells 0 k
  rw [List.drop_zero, Nat.zero_mul] at c1
  have n1 : (pairsL (l.take k)).length = k * 2 := by rw [pairsL_len, List.length_take, Nat.min_eq_left (by omega)]
  have b1 : ([] : List (Nat × Nat)).length + k ≤ maxLen := by simp only [List.length_nil, maxLen]; omega
  have b2 : (([] : List (Nat × Nat)).length + k) * 16 ≤ 140737488355328 := by simp only [List.length_nil]; omega
  go_enter Try.func22, Try.ntmps22
  go_wp2_with (first | (at_builtin; refine wpList_append_lab3 rfl (.tmp 9) (.tmp 12) 43 rfl 49 ii (.agg #[.int .i64 0, .int .i64 0]) 2 16 Try.underlying43 hii hzi0 hzi1 hzi2 rfl (by decide) o lb _ 0 [] rfl rn ⟨g, 0, none⟩ k cap (pairsL (l.take k)) rfl n1 c1 (pairsL_one _) (fun _ => rfl) b1 b2 ?_) | go_in)
  intro v1 w1 o1 r1 s1 z1
  have hv1 : RowP w1 o1 la (.slice (some ⟨g, 0, none⟩) l.length cap) l := Row.step hv s1 hne
  have c2 := hv1.cells (k + 1) (l.length - (k + 1))
  rw [List.take_of_length_le (show (l.drop (k + 1)).length ≤ l.length - (k + 1) by rw [List.length_drop]; omega)] at c2
  have n2 : (pairsL (l.drop (k + 1))).length = (l.length - (k + 1)) * 2 := by rw [pairsL_len, List.length_drop]
  have b3 : k + (l.length - (k + 1)) ≤ maxLen := by unfold maxLen; omega
  have b4 : (k + (l.length - (k + 1))) * 16 ≤ 140737488355328 := by omega
  clear rn c1 n1 b1 b2 hv
  by_cases hcap : cap = k + 1
  · have c3 : ∀ j u, (pairsL (l.drop (k + 1)))[j]? = some u → w1.cell? ((⟨g, 0, none⟩ : Addr).add j) = some u := fun j u hj => by
      have := (List.getElem?_eq_some_iff.1 hj).1
      rw [n2] at this; omega
    have hc0 : cap - (k + 1) = 0 := by omega
    clear c2
    go_wp2_with (first | (at_builtin; refine wpList_append_lab3 rfl (.tmp 14) (.tmp 18) 43 rfl 49 ii (.agg #[.int .i64 0, .int .i64 0]) 2 16 Try.underlying43 hii hzi0 hzi1 hzi2 rfl (by decide) o1 lb _ k (pairsL (l.take k)) rfl r1 ⟨g, 0, none⟩ (l.length - (k + 1)) 0 (pairsL (l.drop (k + 1))) rfl n2 c3 (pairsL_one _) z1 b3 b4 ?_) | go_in)
    intro v2 w2 o2 r2 s2 z2
    have eL : pairsL (l.take k) ++ pairsL (l.drop (k + 1)) = pairsL (l.take k ++ l.drop (k + 1)) := (pairsL_append _ _).symm
    have eN : k + (l.length - (k + 1)) = (l.take k ++ l.drop (k + 1)).length := by simp; omega
    have R2 : RowP w2 o2 lb v2 (l.take k ++ l.drop (k + 1)) := by show Row _ _ _ _ _ _ _ _; rw [← eL, ← eN]; exact r2
    have S2 := s1.trans s2
    clear r2 r1 s2 s1 c3 hv1 eL eN
    go_wp2
    go_ret
    exact ⟨v2, o2, rfl, R2, S2⟩
  · have hc1 : ((k : Int) + 1 = (cap : Int)) = False := by simp; omega
    go_wp2_with (first | (at_builtin; refine wpList_append_lab3 rfl (.tmp 14) (.tmp 18) 43 rfl 49 ii (.agg #[.int .i64 0, .int .i64 0]) 2 16 Try.underlying43 hii hzi0 hzi1 hzi2 rfl (by decide) o1 lb _ k (pairsL (l.take k)) rfl r1 ⟨g, (k + 1) * 2, none⟩ (l.length - (k + 1)) (cap - (k + 1)) (pairsL (l.drop (k + 1))) rfl n2 c2 (pairsL_one _) z1 b3 b4 ?_) | go_in)
    intro v2 w2 o2 r2 s2 z2
    have eL : pairsL (l.take k) ++ pairsL (l.drop (k + 1)) = pairsL (l.take k ++ l.drop (k + 1)) := (pairsL_append _ _).symm
    have eN : k + (l.length - (k + 1)) = (l.take k ++ l.drop (k + 1)).length := by simp; omega
    have R2 : RowP w2 o2 lb v2 (l.take k ++ l.drop (k + 1)) := by show Row _ _ _ _ _ _ _ _; rw [← eL, ← eN]; exact r2
    have S2 := s1.trans s2
    clear r2 r1 s2 s1 c2 hv1 eL eN
    go_wp2
    go_ret
    exact ⟨v2, o2, rfl, R2, S2⟩
set_option maxRecDepth 100000 in
theorem without_no (w : World) (vl : Value) (l : List (Nat × Nat)) :
    Calls Try.prog 22 #[vl, .int .i64 (-1)] w fun e w' => e = .returned vl ∧ w' = w := by
  go_enter Try.func22, Try.ntmps22
  go_wp2
  go_ret
  exact ⟨rfl, rfl⟩

end Go.Proofs.Ytnpfagpgploolaa
