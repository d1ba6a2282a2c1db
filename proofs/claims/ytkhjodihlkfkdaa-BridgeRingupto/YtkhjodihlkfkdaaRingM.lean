/- An edge more between two of one component. No program. -/
import Derived.Test.YtkhjodihlkfkdaaCountM
namespace Go.Proofs.Ytkhjodihlkfkdaa
open Go.ChangeShapes Go.WideShapes Go.ChangeAt Go.RowKit
set_option linter.unusedVariables false

/-- What is known of a graph is known of its twin. -/
theorem Twin8.carry {n : Nat} {es fs : List EdT} {B : List Nat} {bl : Nat → Nat} (h : Twin8 es fs) (ok : OkE n es) (ok' : OkE n fs) (A : Ans n es B bl) : Ans n fs B bl := by
  have one : ∀ {es fs : List EdT}, Twin8 es fs → OkE n es → OkE n fs → ∀ i, (∃ e, e < es.length ∧ idn es e = i ∧ ¬ Firm (ends es) e) → ∃ e, e < fs.length ∧ idn fs e = i ∧ ¬ Firm (ends fs) e := fun {es fs} h ok ok' i hi => by
    obtain ⟨e, he, h1, h2⟩ := hi
    obtain ⟨y, hy, hf⟩ := h.1 _ (List.getElem_mem he)
    obtain ⟨j, hj, rfl⟩ := List.getElem_of_mem hy
    refine ⟨j, hj, ?_, fun q => h2 ?_⟩
    · rw [idn_at hj, hf.1, ← idn_at he, h1]
    · rw [firm_x ok' hj] at q
      rw [firm_x ok he]
      exact h.symm.firm hf.symm q
  refine ⟨A.1, fun i => (A.2.1 i).trans ⟨one h ok ok' i, one h.symm ok' ok i⟩, fun x hx => ⟨(A.2.2.1 x hx).1, h.jfirm ok ok' (A.2.2.1 x hx).2⟩, fun x y hx hy j => A.2.2.2 x y hx hy (h.symm.jfirm ok' ok j)⟩
theorem ends_snoc (es : List EdT) (x : EdT) : ends (es ++ [x]) = ends es ++ [(x.u.toNat, x.v.toNat)] := by simp [ends]
section
variable {l : List (Nat × Nat)} {P Q : Nat → Prop} {u v a b : Nat}
theorem jn_up (h : Jn l Q a b) (hq : ∀ i, i < l.length → Q i → P i) : Jn (l ++ [(u, v)]) P a b :=
  h.sub fun i x hx hi => by
    have hl := (List.getElem?_eq_some_iff.1 hx).1
    exact Inc.jn (.inl (by rw [List.getElem?_append_left hl]; exact hx)) (hq i hl hi)
theorem jn_down (h : Jn (l ++ [(u, v)]) P a b) (hq : ∀ i, i < l.length → P i → Q i) (hm : P l.length → Jn l Q u v) : Jn l Q a b :=
  h.sub fun i x hx hi => by
    by_cases q : i < l.length
    · rw [List.getElem?_append_left q] at hx
      exact Inc.jn (.inl hx) (hq i q hi)
    · have hl := (List.getElem?_eq_some_iff.1 hx).1
      simp only [List.length_append, List.length_cons, List.length_nil] at hl
      obtain rfl : i = l.length := by omega
      rw [List.getElem?_append_right (Nat.le_refl _)] at hx
      simp only [Nat.sub_self, List.getElem?_cons_zero, Option.some.injEq] at hx
      subst hx
      exact hm hi
theorem inc_last : Inc (l ++ [(u, v)]) l.length u v := .inl (by simp)
/-- A way with an edge, or one to its ends and on. -/
theorem jn_one {e x y : Nat} (hI : Inc l e x y) (h : Jn l (fun _ => True) a b) : Jn l (fun i => i ≠ e) a b ∨ (Jn l (fun i => i ≠ e) a x ∧ Jn l (fun i => i ≠ e) y b) ∨ (Jn l (fun i => i ≠ e) a y ∧ Jn l (fun i => i ≠ e) x b) := by
  refine h (fun z => Jn l (fun i => i ≠ e) a z ∨ (Jn l (fun i => i ≠ e) a x ∧ Jn l (fun i => i ≠ e) y z) ∨ (Jn l (fun i => i ≠ e) a y ∧ Jn l (fun i => i ≠ e) x z)) (.inl Jn.refl) fun i z hz _ => ?_
  have key : ∀ {p q}, Inc l i p q → (Jn l (fun i => i ≠ e) a p ∨ (Jn l (fun i => i ≠ e) a x ∧ Jn l (fun i => i ≠ e) y p) ∨ (Jn l (fun i => i ≠ e) a y ∧ Jn l (fun i => i ≠ e) x p)) → (Jn l (fun i => i ≠ e) a q ∨ (Jn l (fun i => i ≠ e) a x ∧ Jn l (fun i => i ≠ e) y q) ∨ (Jn l (fun i => i ≠ e) a y ∧ Jn l (fun i => i ≠ e) x q)) := fun {p q} hpq k => by
    by_cases hie : i = e
    · subst hie
      rcases hI.ends hpq with ⟨rfl, rfl⟩ | ⟨rfl, rfl⟩
      · rcases k with k | ⟨k1, k2⟩ | ⟨k1, k2⟩
        · exact .inr (.inl ⟨k, Jn.refl⟩)
        · exact .inr (.inl ⟨k1, Jn.refl⟩)
        · exact .inl k1
      · rcases k with k | ⟨k1, k2⟩ | ⟨k1, k2⟩
        · exact .inr (.inr ⟨k, Jn.refl⟩)
        · exact .inl k1
        · exact .inr (.inr ⟨k1, Jn.refl⟩)
    · have s : Jn l (fun i => i ≠ e) p q := Inc.jn hpq hie
      rcases k with k | ⟨k1, k2⟩ | ⟨k1, k2⟩
      · exact .inl (k.trans s)
      · exact .inr (.inl ⟨k1, k2.trans s⟩)
      · exact .inr (.inr ⟨k1, k2.trans s⟩)
  exact ⟨key (.inl hz), key (.inr hz)⟩
theorem ring_firm (huv : Jn l (fun _ => True) u v) {e : Nat} (he : e < l.length) : Firm (l ++ [(u, v)]) e ↔ Firm l e ∨ ¬ Jn l (fun i => i ≠ e) u v := by
  have hI : Inc l e l[e].1 l[e].2 := .inl (List.getElem?_eq_getElem he)
  have hI' : Inc (l ++ [(u, v)]) e l[e].1 l[e].2 := .inl (by rw [List.getElem?_append_left he]; exact List.getElem?_eq_getElem he)
  have up : ∀ {a b}, Jn l (fun i => i ≠ e) a b → Jn (l ++ [(u, v)]) (fun i => i ≠ e) a b := fun h => jn_up h fun _ _ h => h
  have new : Jn (l ++ [(u, v)]) (fun i => i ≠ e) u v := Inc.jn inc_last (by omega)
  constructor
  · intro h
    by_cases q : Jn l (fun i => i ≠ e) u v
    · exact .inl ⟨_, _, hI, jn_down (h.at hI') (fun _ _ h => h) (fun _ => q)⟩
    · exact .inr q
  · rintro (h | h)
    · exact ⟨_, _, hI', up (h.at hI)⟩
    · refine ⟨_, _, hI', ?_⟩
      rcases jn_one hI huv with k | ⟨k1, k2⟩ | ⟨k1, k2⟩
      · exact absurd k h
      · exact (up k1).symm.trans (new.trans (up k2).symm)
      · exact (up k2).trans (new.symm.trans (up k1))
theorem ring_last (huv : Jn l (fun _ => True) u v) : Firm (l ++ [(u, v)]) l.length := ⟨u, v, inc_last, jn_up huv fun i hi _ => by omega⟩
end
/-- Without the edge of an ID. -/
theorem cj_filter {n : Nat} {es : List EdT} (ok : OkE n es) {e : Nat} (he : e < es.length) {i : Int} (hi : i = es[e].id) {a b : Nat} : Cj (ends (es.filter fun x => x.id != i)) a b ↔ Jn (ends es) (fun j => j ≠ e) a b := by
  subst hi
  have h1 : Jn (ends (es.filter fun x => x.id != es[e].id)) (fun _ => True) a b ↔ Jm (fun y => y ∈ es ∧ y.id ≠ es[e].id) a b := jn_jm (fun j h _ => by
      have := List.mem_filter.1 (List.getElem_mem h)
      exact ⟨this.1, by simpa using this.2⟩) (fun x hx => by
      have : x ∈ es.filter fun x => x.id != es[e].id := List.mem_filter.2 ⟨hx.1, by simpa using hx.2⟩
      obtain ⟨j, hj, rfl⟩ := List.getElem_of_mem this
      exact ⟨j, hj, rfl, trivial⟩)
  have h2 := jn_jm (es := es) (P := fun j => j ≠ e) (M := fun y => y ∈ es ∧ y.id ≠ es[e].id) (a := a) (b := b) (fun i h hP => ⟨List.getElem_mem h, fun q => hP (ok.inj h he q)⟩) (fun x hx => by
    obtain ⟨i, hi, rfl⟩ := List.getElem_of_mem hx.1
    exact ⟨i, hi, rfl, fun q => hx.2 (by subst q; rfl)⟩)
  rw [cj_all, h1, h2]
/-- The list with the edge more, put in the order of IDs and turned about. -/
def gsL (es : List EdT) (u v : Nat) : List EdT := ⟨5, (v : Int), (u : Int), 0⟩ :: es.map fun x => ⟨x.id, x.v, x.u, 0⟩
theorem ring_lists {n m u v : Nat} {es : List EdT} (G : GrE n m es) (hm : m ≤ 1048576) (hu : u < n) (hv : v < n) (huv : u ≠ v) :
    OkE n (es ++ [⟨5, (u : Int), (v : Int), 0⟩]) ∧ OkE n (gsL es u v) ∧ Asc (gsL es u v) ∧ Twin8 (es ++ [⟨5, (u : Int), (v : Int), 0⟩]) (gsL es u v) := by
  have hx : ∀ x, x ∈ es → RightE n x ∧ 10 ≤ x.id := fun x hx => by
    obtain ⟨a, b, c, d, e⟩ := G.1 x hx
    exact ⟨⟨a, b, c, ⟨by have := d.1; omega, by have := d.2; omega⟩, by rw [e]; exact ⟨by decide, by decide⟩⟩, d.1⟩
  have r0 : ∀ a b : Nat, a < n → b < n → a ≠ b → RightE n ⟨5, (a : Int), (b : Int), 0⟩ := fun a b ha hb hab => ⟨⟨by simp only; omega, by simp only; omega⟩, ⟨by simp only; omega, by simp only; omega⟩, by simp only; omega, ⟨(by decide : (0 : Int) ≤ 5), (by decide : (5 : Int) ≤ 1099511627776)⟩, ⟨(by decide : (-1099511627776 : Int) ≤ 0), (by decide : (0 : Int) ≤ 1099511627776)⟩⟩
  have mk : ∀ fs : List EdT, (∀ y, y ∈ fs → RightE n y) → fs.Pairwise (fun a b => a.id ≠ b.id) → OkE n fs := fun fs h1 h2 k hk => ⟨h1 _ (List.getElem_mem hk), fun x hx => by
    obtain ⟨i, hi, rfl⟩ := List.mem_take_iff_getElem.1 hx
    exact List.pairwise_iff_getElem.1 h2 i k (by omega) hk (by omega)⟩
  have asc : Asc (gsL es u v) := by
    refine ⟨fun y hy => ?_, ?_⟩
    · rcases List.mem_cons.1 hy with rfl | hy
      · exact (by decide : (0 : Int) ≤ 5)
      · obtain ⟨x, hx', rfl⟩ := List.mem_map.1 hy
        have := (hx x hx').2
        simp only; omega
    · unfold gsL
      rw [List.pairwise_cons, List.pairwise_map]
      refine ⟨fun y hy => ?_, G.2.imp fun {a b} h => h⟩
      obtain ⟨x, hx', rfl⟩ := List.mem_map.1 hy
      have := (hx x hx').2
      simp only; omega
  refine ⟨mk _ (fun y hy => ?_) ?_, mk _ (fun y hy => ?_) (asc.2.imp fun {a b} h => by omega), asc, fun x hx' => ?_, fun y hy => ?_⟩
  · rcases List.mem_append.1 hy with hy | hy
    · exact (hx y hy).1
    · simp only [List.mem_singleton] at hy; subst hy; exact r0 u v hu hv huv
  · rw [List.pairwise_append]
    refine ⟨G.2.imp fun {a b} h => by omega, by simp, fun a ha b hb => ?_⟩
    simp only [List.mem_singleton] at hb
    subst hb
    have := (hx a ha).2
    simp only; omega
  · rcases List.mem_cons.1 hy with rfl | hy
    · exact r0 v u hv hu (Ne.symm huv)
    · obtain ⟨x, hx', rfl⟩ := List.mem_map.1 hy
      obtain ⟨⟨a, b, c, d, e⟩, _⟩ := hx x hx'
      exact ⟨b, a, fun q => c q.symm, d, ⟨(by decide : (-1099511627776 : Int) ≤ 0), (by decide : (0 : Int) ≤ 1099511627776)⟩⟩
  · rcases List.mem_append.1 hx' with h | h
    · exact ⟨_, List.mem_cons_of_mem _ (List.mem_map.2 ⟨x, h, rfl⟩), rfl, rfl, rfl⟩
    · simp only [List.mem_singleton] at h; subst h; exact ⟨_, List.mem_cons_self, rfl, rfl, rfl⟩
  · rcases List.mem_cons.1 hy with rfl | h
    · exact ⟨_, List.mem_append_right _ (List.mem_singleton.2 rfl), rfl, rfl, rfl⟩
    · obtain ⟨x, hx', rfl⟩ := List.mem_map.1 h
      exact ⟨x, List.mem_append_left _ hx', rfl, rfl, rfl⟩
/-- The answers with the edge more. -/
theorem ring_ans {n m u v : Nat} {es : List EdT} {B B2 : List Nat} {bl bl2 : Nat → Nat} (G : GrE n m es) (hm : m ≤ 1048576) (hu : u < n) (hv : v < n) (huv : u ≠ v) (A : Ans n es B bl) (A2 : Ans n (es ++ [⟨5, (u : Int), (v : Int), 0⟩]) B2 bl2) (hj : Jn (ends es) (fun _ => True) u v) :
    (∀ i, i ∈ B2 ↔ i ∈ B ∧ ∀ e, e < es.length → idn es e = i → Jn (ends es) (fun j => j ≠ e) u v) ∧ bl2 u = bl2 v ∧ cntB bl2 n + B.length = cntB bl n + B2.length := by
  obtain ⟨okf, okg, asc, tw⟩ := ring_lists G hm hu hv huv
  have hends : ∀ s, s ∈ ends es → s.1 < n ∧ s.2 < n := fun s hs => by
    obtain ⟨x, hx, rfl⟩ := List.mem_map.1 hs
    obtain ⟨⟨a, b⟩, ⟨c, d⟩, _⟩ := G.1 x hx
    exact ⟨show x.u.toNat < n by omega, show x.v.toNat < n by omega⟩
  have ef : ends (es ++ [⟨5, (u : Int), (v : Int), 0⟩]) = ends es ++ [(u, v)] := by rw [ends_snoc]; simp
  have hlen : (ends es).length = es.length := ends_len es
  have inj : ∀ i j, i < es.length → j < es.length → idn es i = idn es j → i = j := fun i j hi hj q => by
    rcases Nat.lt_trichotomy i j with z | z | z
    · have := idn_lt G.asc z hj; omega
    · exact z
    · have := idn_lt G.asc z hi; omega
  have idf : ∀ e, e < es.length → idn (es ++ [⟨5, (u : Int), (v : Int), 0⟩]) e = idn es e := fun e he => by
    unfold idn; rw [List.getElem?_append_left he]
  refine ⟨fun i => ?_, ?_, ?_⟩
  · rw [A2.2.1, A.2.1, ef]
    constructor
    · rintro ⟨e, he, h1, h2⟩
      simp only [List.length_append, List.length_cons, List.length_nil] at he
      by_cases q : e < es.length
      · rw [ring_firm hj (by omega)] at h2
        have h3 : ¬ Firm (ends es) e := fun z => h2 (.inl z)
        have h4 : Jn (ends es) (fun j => j ≠ e) u v := Classical.byContradiction fun z => h2 (.inr z)
        rw [idf e q] at h1
        refine ⟨⟨e, q, h1, h3⟩, fun e' he' h' => ?_⟩
        obtain rfl := inj e' e he' q (h'.trans h1.symm)
        exact h4
      · obtain rfl : e = (ends es).length := by omega
        exact absurd (ring_last hj) h2
    · rintro ⟨⟨e, he, h1, h2⟩, h3⟩
      refine ⟨e, by simp; omega, (idf e he).trans h1, fun z => ?_⟩
      rw [ring_firm hj (by omega)] at z
      rcases z with z | z
      · exact h2 z
      · exact z (h3 e he h1)
  · refine A2.2.2.2 u v hu hv ?_
    rw [ef]
    exact Inc.jn inc_last (ring_last hj)
  · obtain ⟨b, hb⟩ := lead_ex (ends es) (fun _ => True) n
    have c1 := cnt_blocks G.asc hends A hb
    have Ag := tw.carry okf okg A2
    have hg : Lead (ends (gsL es u v)) (fun _ => True) n b := by
      have e : ∀ {x y}, Jn (ends (gsL es u v)) (fun _ => True) x y ↔ Jn (ends es) (fun _ => True) x y := fun {x y} => by
        constructor
        · intro h
          refine h.sub fun i z hz _ => ?_
          obtain ⟨y', hy', rfl⟩ := List.mem_map.1 (List.mem_of_getElem? hz)
          rcases List.mem_cons.1 hy' with rfl | hy''
          · simpa using hj.symm
          · obtain ⟨t, ht, rfl⟩ := List.mem_map.1 hy''
            obtain ⟨j, hj', rfl⟩ := List.getElem_of_mem ht
            exact (Inc.jn (e := j) (x := es[j].u.toNat) (y := es[j].v.toNat) (.inl (by simp [ends, hj'])) trivial).symm
        · intro h
          refine h.sub fun i z hz _ => ?_
          have hi := (List.getElem?_eq_some_iff.1 hz).1
          rw [ends_len] at hi
          have : (ends (gsL es u v))[i + 1]? = some (es[i].v.toNat, es[i].u.toNat) := by simp [ends, gsL, hi]
          have hz2 : (ends es)[i]? = some (es[i].u.toNat, es[i].v.toNat) := by simp [ends, hi]
          rw [hz2] at hz
          injection hz with hz
          subst hz
          exact Inc.jn (e := i + 1) (.inr this) trivial
      exact ⟨hb.le, fun v hv => e.2 (hb.jn v hv), fun x y hx hy j => hb.eq x y hx hy (e.1 j)⟩
    have hends2 : ∀ s, s ∈ ends (gsL es u v) → s.1 < n ∧ s.2 < n := fun s hs => by
      obtain ⟨x, hx, rfl⟩ := List.mem_map.1 hs
      rcases List.mem_cons.1 hx with rfl | hx
      · exact ⟨by simpa using hv, by simpa using hu⟩
      · obtain ⟨t, ht, rfl⟩ := List.mem_map.1 hx
        obtain ⟨⟨a, b⟩, ⟨c, d⟩, _⟩ := G.1 t ht
        exact ⟨show t.v.toNat < n by omega, show t.u.toNat < n by omega⟩
    have c2 := cnt_blocks asc hends2 Ag hg
    omega
end Go.Proofs.Ytkhjodihlkfkdaa
