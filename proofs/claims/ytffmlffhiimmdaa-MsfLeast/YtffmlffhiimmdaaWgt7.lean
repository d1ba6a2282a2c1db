/- Weight. -/
import Derived.Test.YtffmlffhiimmdaaBot7
import Derived.Maps.RangeWalk
import Derived.Deep.LoopGhost
namespace Go.Proofs.Ytffmlffhiimmdaa
open Go.ChangeShapes Go.WideShapes Go.ChangeAt Go.RowKit Go.Maps
set_option linter.unusedVariables false

theorem grown_step {w w' : World} {o : Nat → Nat} {r i : Nat} (g : w.grownBy w' (some r)) (hr : o r = i) : Step (fun k => k = i) w o w' o :=
  ⟨g.os, g.tape, g.output, g.size, fun _ _ => rfl, fun k hk hn => g.block k hk (fun e => hn (by cases e; exact hr))⟩
theorem ranges_step {I : Nat → Prop} {P : Program} {K : TypeId} {R : Value → Option (DataW Unit × List MemPlace)} {w w' : World} {o o' : Nat → Nat} {b r n : Nat} {D : DataW Unit} {left : Lit → Bool} {cnt : Nat} (h : w.ranges P K R b r n D left cnt) (s : Step I w o w' o') (hb : ¬ I (o b)) (hr : ¬ I (o r)) : w'.ranges P K R b r n D left cnt := by
  have l1 := h.owns.lt
  have l2 := h.lt
  obtain ⟨es, clock, since, seen, c0, q1, q2, q3, q4, q5, q6⟩ := h
  exact ⟨es, clock, since, seen, c0, (s.block b l1 hb).trans q1, q2, q3, q4, (s.block r l2 hr).trans q5, q6⟩
/-- Some entries have come: those of the forest among them. -/
structure Rgd (f : Nat → Option (Ed × Bool)) (left : Lit → Bool) (pre : List Nat) : Prop where
  key : ∀ k : Int, left (.int .i64 k) = true → ∃ j x s, k = (j : Nat) ∧ f j = some (x, s)
  nd : pre.Nodup
  got : ∀ i ∈ pre, (∃ x, f i = some (x, true)) ∧ left (.int .i64 (i : Nat)) = false
  all : ∀ i x, f i = some (x, true) → i ∈ pre ∨ left (.int .i64 (i : Nat)) = true
theorem other_key {a b : Int} (h : a ≠ b) : (Lit.int .i64 a).sameKey (.int .i64 b) = false := by
  cases hs : (Lit.int .i64 a).sameKey (.int .i64 b) with
  | false => rfl
  | true => exact absurd (by have := WideAt.sameKey_eq hs; simpa using this) h
theorem same_key (a : Int) : (Lit.int .i64 a).sameKey (.int .i64 a) = true := WideAt.sameKey_self (intKey a)
theorem Rgd.skip {f : Nat → Option (Ed × Bool)} {left : Lit → Bool} {pre : List Nat} (h : Rgd f left pre) {k : Nat} {x : Ed} (hk : f k = some (x, false)) : Rgd f (fun z => left z && !z.sameKey (.int .i64 (k : Nat))) pre := by
  refine ⟨fun j hj => h.key j (by simp only [Bool.and_eq_true] at hj; exact hj.1), h.nd, fun i hi => ⟨(h.got i hi).1, by rw [(h.got i hi).2]; rfl⟩, fun i y hi => ?_⟩
  have ne : i ≠ k := fun e => by rw [e, hk] at hi; simp at hi
  rcases h.all i y hi with q | q
  · exact .inl q
  · refine .inr ?_
    show (left _ && !Lit.sameKey _ _) = true
    rw [q, other_key (by omega)]; rfl
theorem Rgd.take {f : Nat → Option (Ed × Bool)} {left : Lit → Bool} {pre : List Nat} (h : Rgd f left pre) {k : Nat} {x : Ed} (hk : f k = some (x, true)) (hl : left (.int .i64 (k : Nat)) = true) : Rgd f (fun z => left z && !z.sameKey (.int .i64 (k : Nat))) (pre ++ [k]) := by
  have nk : k ∉ pre := fun m => by rw [(h.got k m).2] at hl; simp at hl
  refine ⟨fun j hj => h.key j (by simp only [Bool.and_eq_true] at hj; exact hj.1), ?_, fun i hi => ?_, fun i y hi => ?_⟩
  · rw [List.nodup_append]
    exact ⟨h.nd, by simp, fun a ha b hb e => by simp at hb; subst hb; subst e; exact nk ha⟩
  · rcases List.mem_append.1 hi with q | q
    · exact ⟨(h.got i q).1, by rw [(h.got i q).2]; rfl⟩
    · simp at q
      subst q
      exact ⟨⟨x, hk⟩, by rw [same_key]; simp⟩
  · by_cases e : i = k
    · subst e; exact .inl (by simp)
    · rcases h.all i y hi with q | q
      · exact .inl (List.mem_append_left _ q)
      · refine .inr ?_
        show (left _ && !Lit.sameKey _ _) = true
        rw [q, other_key (by omega)]; rfl
/-- The weight of an edge. -/
def wOf (ed : Nat → Option Ed) (i : Nat) : Int := match ed i with | some x => x.w | none => 0
/-- The IDs of the forest. -/
def Ids (ed : Nat → Option Ed) (l : List Nat) : Prop := l.Nodup ∧ ∀ i, i ∈ l ↔ (ed i).isSome = true
theorem Rgd.ids {D ed : Nat → Option Ed} (hM : Mf D ed) {left : Lit → Bool} {pre : List Nat} (h : Rgd (msF D ed) left pre) (h0 : ∀ kl, left kl = false) : Ids ed pre := by
  refine ⟨h.nd, fun i => ⟨fun m => ?_, fun e => ?_⟩⟩
  · obtain ⟨⟨x, hx⟩, _⟩ := h.got i m
    unfold msF at hx
    cases hD : D i with
    | none => rw [hD] at hx; simp at hx
    | some y => rw [hD] at hx; simp at hx; exact hx.2
  · obtain ⟨x, hx⟩ := Option.isSome_iff_exists.1 e
    have hD := hM.sub i x hx
    rcases h.all i x (by unfold msF; rw [hD, hx]; rfl) with q | q
    · exact q
    · rw [h0] at q; simp at q
theorem msF_at {D ed : Nat → Option Ed} {i : Nat} {x : Ed} {s : Bool} (h : msF D ed i = some (x, s)) : D i = some x ∧ s = (ed i).isSome := by
  unfold msF at h
  cases hD : D i with
  | none => rw [hD] at h; simp at h
  | some y => rw [hD] at h; simp at h; exact ⟨by rw [h.1], h.2.symm⟩
def msK (x : Int) : Value := .int .i64 x
def msV (c : Int × Int × Int × Int × Bool) : Value := .agg #[.int .i64 c.1, .int .i64 c.2.1, .int .i64 c.2.2.1, .int .i64 c.2.2.2.1, .bool c.2.2.2.2]
theorem msK_inv (key : Value) (kl : Lit) (h : keyOf Try.prog 3 key = some kl) : ∃ x, key = msK x := by
  obtain ⟨x, e, _⟩ := Maps.keyOf_int_inv Try.underlying3 h
  exact ⟨x, e⟩
theorem msV_inv (v : Value) (y : DataW Unit × List MemPlace) (h : msElem v = some y) : ∃ c, v = msV c := by
  obtain ⟨a, b, c, d, s, e, _⟩ := msElem_form h
  exact ⟨(a, b, c, d, s), e⟩
/-- An entry that came is one that there is. -/
theorem rgd_came {f : Nat → Option (Ed × Bool)} {left : Lit → Bool} {pre : List Nat} (h : Rgd f left pre) {DD : DataW Unit} (h4 : ∀ k x s, f k = some (x, s) → Maps.has DD (.int .i64 (k : Nat)) = true ∧ DD.atKey (.int .i64 (k : Nat)) (msD 0 0 0 0 false) = msD (k : Nat) (x.u : Nat) (x.v : Nat) x.w s)
    {x : Int} {c : Int × Int × Int × Int × Bool} {kl : Lit} {y : DataW Unit × List MemPlace} (hk : keyOf Try.prog 3 (msK x) = some kl) (hl : left kl = true) (hv : msElem (msV c) = some y) (hat : ∀ zd, DD.atKey kl zd = y.1) :
    ∃ (j : Nat) (z : Ed) (s : Bool), x = (j : Nat) ∧ kl = .int .i64 (j : Nat) ∧ f j = some (z, s) ∧ c = (((j : Nat) : Int), ((z.u : Nat) : Int), ((z.v : Nat) : Int), z.w, s) := by
  obtain ⟨x', e1, e2, _⟩ := Maps.keyOf_int_inv Try.underlying3 hk
  unfold msK at e1
  simp only [Value.int.injEq, true_and] at e1
  subst e1
  subst e2
  obtain ⟨j, z, s, rfl, hf⟩ := h.key x hl
  refine ⟨j, z, s, rfl, rfl, hf, ?_⟩
  have q := (h4 j z s hf).2
  rw [hat] at q
  have : msElem (msV c) = some (msD (j : Nat) (z.u : Nat) (z.v : Nat) z.w s, y.2) := by rw [hv, ← q]
  have := msElem_inv this
  obtain ⟨c1, c2, c3, c4, c5⟩ := c
  unfold msV at this
  simpa using this

end Go.Proofs.Ytffmlffhiimmdaa
namespace Go.Proofs.Ytffmlffhiimmdaa
open Go.ChangeShapes Go.WideShapes Go.ChangeAt Go.RowKit Go.Maps
set_option linter.unusedVariables false

/-- Between two rounds of a range over the edges. -/
def RnS (w : World) (o : Nat → Nat) (L lb p n bm r : Nat) (D ed : Nat → Option Ed) (m c : Nat) (DD : DataW Unit) (pre : List Nat) (cnt : Nat) (wr : World) : Prop :=
  ∃ o' left, wr.ranges Try.prog 3 msElem bm r m DD left cnt ∧ Rgd (msF D ed) left pre ∧ pre.length + cnt ≤ m ∧ Mx wr o' L p n D ed m c ∧ o' r = lb ∧ o' bm = L + 1 ∧ Step (fun k => k = lb) w o wr o'
theorem wOf_some {ed : Nat → Option Ed} {i : Nat} {x : Ed} (h : ed i = some x) : wOf ed i = x.w := by unfold wOf; rw [h]
theorem sum_bd {n : Nat} {ed : Nat → Option Ed} (ok : EdOk n ed) (l : List Nat) (h : ∀ i ∈ l, (ed i).isSome = true) : -((l.length : Int) * 1099511627776) ≤ (l.map (wOf ed)).sum ∧ (l.map (wOf ed)).sum ≤ (l.length : Int) * 1099511627776 := by
  induction l with
  | nil => simp
  | cons a l ih =>
    obtain ⟨x, hx⟩ := Option.isSome_iff_exists.1 (h a (by simp))
    have q := ih (fun i hi => h i (by simp [hi]))
    have b := ok a x hx
    rw [List.map_cons, List.sum_cons, wOf_some hx, List.length_cons]
    omega
theorem Mx.ok {w : World} {o : Nat → Nat} {L p n : Nat} {D ed : Nat → Option Ed} {m c : Nat} (h : Mx w o L p n D ed m c) : EdOk n ed := by
  obtain ⟨_, R, h⟩ := h
  exact h.tx.2.1

set_option maxRecDepth 100000 in
set_option maxHeartbeats 4000000 in
theorem weight_in (w : World) (o : Nat → Nat) (L lb p n : Nat) (D ed : Nat → Option Ed) (m c : Nat) (X : Mx w o L p n D ed m c) (hm : m ≤ 192) (hlb : ¬ ML L lb) :
    Calls Try.prog 25 #[.pointer (some ⟨p, 0, none⟩)] w fun e w' => ∃ l, Ids ed l ∧ e = .returned (.int .i64 ((l.map (wOf ed)).sum)) ∧ ∃ o', Mx w' o' L p n D ed m c ∧ Step (fun k => k = lb) w o w' o' := by
  have X0 := X
  have hok := X.ok
  obtain ⟨⟨hM, hokD⟩, R, bm, q, B, MM, T⟩ := X
  obtain ⟨DD, hown, hsz, hbl, h4, h5⟩ := MM
  obtain ⟨⟨p0, p1, p2⟩, pf⟩ := B.cell3
  have nl : ∀ k, ML L k → ¬ (k = lb) := fun k hk e => hlb (e ▸ hk)
  have nl1 : ¬ (L + 1 = lb) := nl _ ⟨by omega, by omega⟩
  clear T B
  go_enter Try.func25, Try.ntmps25
  go_wp2_with (first | (at_range; refine wpList_range_own _ rfl _ 66 rfl 3 73 intLaw Try.underlying66 _ bm m _ rfl hown ?_; intro w0 hrg0 hg0 hs0) | go_in)
  have s0 : Step (fun k => k = lb) w o w0 (newLab w o lb) := Step.appended hg0 rfl (fun k hk => by cases hk)
  have START : RnS w o L lb p n bm w.heap.size D ed m c DD [] m w0 := by
    have hb0 := hown.lt
    refine ⟨newLab w o lb, _, (by rw [hsz] at hrg0; exact hrg0), ⟨fun k hk => h5 k hk, by simp, fun i hi => by simp at hi, fun i x hi => .inr (h4 i x true hi).1⟩, by simp, X0.step s0 nl, newLab_new (Nat.le_refl _), (newLab_old hb0).trans hbl, s0⟩
  clear hg0 hs0 hrg0 s0 X0 hown p0 p1 p2 pf
  generalize w.heap.size = r at *
  go_frame
  go_loopg [3] m (fun g sv wr => ∃ pre cnt, sv = .int .i64 ((pre.map (wOf ed)).sum) ∧ g = cnt ∧ RnS w o L lb p n bm r D ed m c DD pre cnt wr)
  case atStart => exact ⟨[], m, by go_num, rfl, START⟩
  case round =>
    clear START
    obtain ⟨pre, cnt, rfl, rfl, o1, left, hrg, hR, hle, X1, hor, hob, s1⟩ := hrel
    have hb := sum_bd hok pre (fun i hi => by
      obtain ⟨⟨x, hx⟩, _⟩ := hR.got i hi
      have := (msF_at hx).2; exact this.symm)
    have hpl : pre.length ≤ 192 := by omega
    go_wp2_with (first | (at_next; refine wpList_next_ranges _ rfl _ rfl 3 intLaw msElem msK msV msK_inv msV_inv bm r m _ _ _ rfl hrg ?_ ?_; all_goals first | (intro x cc kl y w2 cnt' hkey hlk hv hat hrg2 hlt hgr hsz2 hen; obtain ⟨j, z, s, rfl, rfl, hf, rfl⟩ := rgd_came hR h4 hkey hlk hv hat; have hen2 : (Instr.entry (.pointer (some ⟨r, 0, none⟩))).run Try.prog w2 = .ok (.tuple #[.int .i64 (j : Nat), .agg #[.int .i64 (j : Nat), .int .i64 (z.u : Nat), .int .i64 (z.v : Nat), .int .i64 z.w, .bool s]]) w2 := hen; clear hen hkey hv hat hrg; unfold msK msV; cases s) | (intro h0 hl0)) | go_in)
    · have RR : ∃ o', Mx wr o' L p n D ed m c ∧ Step (fun k => k = lb) w o wr o' := ⟨o1, X1, s1⟩
      have RI := hR.ids X1.1.1 hl0
      go_ret
      exact ⟨pre, RI, rfl, RR⟩
    · have s2 := grown_step hgr hor
      have n3 := newB5 w2 o1 (.cells #[.int .i64 (j : Nat), .int .i64 (z.u : Nat), .int .i64 (z.v : Nat), .int .i64 z.w, .bool false] 73)
      have X2 := (X1.step s2 nl).step n3 (fun _ _ => id)
      have S2 := (s1.trans s2).trans (n3.mono fun _ h => h.elim)
      have hr2 := hrg2.alloc (.cells #[.int .i64 (j : Nat), .int .i64 (z.u : Nat), .int .i64 (z.v : Nat), .int .i64 z.w, .bool false] 73)
      obtain ⟨hD, hs⟩ := msF_at hf
      have hb2 := hokD j z hD
      have RR : RnS w o L lb p n bm r D ed m c DD pre cnt' (w2.alloc (.cells #[.int .i64 (j : Nat), .int .i64 (z.u : Nat), .int .i64 (z.v : Nat), .int .i64 z.w, .bool false] 73)) := ⟨o1, _, hr2, hR.skip hf, by omega, X2, hor, hob, S2⟩
      go_roundg cnt'
      case measure => exact hlt
      case rel => exact ⟨pre, cnt', rfl, rfl, RR⟩
    · have s2 := grown_step hgr hor
      have n3 := newB5 w2 o1 (.cells #[.int .i64 (j : Nat), .int .i64 (z.u : Nat), .int .i64 (z.v : Nat), .int .i64 z.w, .bool true] 73)
      have X2 := (X1.step s2 nl).step n3 (fun _ _ => id)
      have S2 := (s1.trans s2).trans (n3.mono fun _ h => h.elim)
      have hr2 := hrg2.alloc (.cells #[.int .i64 (j : Nat), .int .i64 (z.u : Nat), .int .i64 (z.v : Nat), .int .i64 z.w, .bool true] 73)
      obtain ⟨hD, hs⟩ := msF_at hf
      have hb2 := hokD j z hD
      have RR : RnS w o L lb p n bm r D ed m c DD (pre ++ [j]) cnt' (w2.alloc (.cells #[.int .i64 (j : Nat), .int .i64 (z.u : Nat), .int .i64 (z.v : Nat), .int .i64 z.w, .bool true] 73)) := ⟨o1, _, hr2, hR.take hf hlk, by simp; omega, X2, hor, hob, S2⟩
      have hej : ed j = some z := by
        obtain ⟨x, hx⟩ := Option.isSome_iff_exists.1 hs.symm
        have := X1.1.1.sub j x hx
        rw [hD] at this
        rw [hx]; exact this.symm
      have hsum : wrap64 ((pre.map (wOf ed)).sum + z.w) = ((pre ++ [j]).map (wOf ed)).sum := by
        rw [List.map_append, List.sum_append, List.map_cons, List.map_nil, List.sum_cons, List.sum_nil, wOf_some hej, Int.add_zero]
        have : (pre.length : Int) * 1099511627776 ≤ 192 * 1099511627776 := by omega
        unfold wrap64; omega
      rw [hsum]
      go_roundg cnt'
      case measure => exact hlt
      case rel => exact ⟨pre ++ [j], cnt', rfl, rfl, RR⟩

end Go.Proofs.Ytffmlffhiimmdaa
