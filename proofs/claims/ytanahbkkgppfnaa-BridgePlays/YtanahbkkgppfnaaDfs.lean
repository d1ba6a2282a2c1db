/- Going through a graph as far as one can ahead of going back: what holds all the way. No program. -/
import Derived.Test.YtanahbkkgppfnaaGr8
namespace Go.Proofs.Ytanahbkkgppfnaa
set_option linter.unusedVariables false

/-- What a walk knows: steps not yet taken, the edge by which a vertex was come to (-1: none), its turn (0: not yet), the least turn known to be reached, the way, the vertices whose block is open, bridges (by their place in the list), blocks. -/
structure Dst where
  st : Nat → List (Nat × Nat)
  ba : Nat → Int
  tn : Nat → Nat
  lw : Nat → Nat
  path : List Nat
  op : List Nat
  turns : Nat
  br : List Nat
  bl : Nat → Nat
def put8 {α : Type} (f : Nat → α) (a : Nat) (x : α) : Nat → α := fun k => if k = a then x else f k
theorem put8_at {α : Type} (f : Nat → α) (a : Nat) (x : α) : put8 f a x a = x := if_pos rfl
theorem put8_ne {α : Type} (f : Nat → α) {a k : Nat} (x : α) (h : k ≠ a) : put8 f a x k = f k := if_neg h
def Tree8 (s : Dst) (e : Nat) : Prop := ∃ x, 0 < s.tn x ∧ s.ba x = (e : Nat)

/-- All the way: τ: how many turns were taken ahead of this component; anc: of each vertex the last one of the way ahead of which it does not lie. -/
structure Dv (l : List (Nat × Nat)) (n τ : Nat) (anc : Nat → Nat) (s : Dst) : Prop where
  tle : ∀ x, s.tn x ≤ s.turns
  tau : τ ≤ s.turns
  inj : ∀ x y, 0 < s.tn x → s.tn x = s.tn y → x = y
  lt : ∀ x, 0 < s.tn x → x < n
  stI : ∀ x e y, (e, y) ∈ s.st x → Inc l e x y
  un : ∀ x e y, s.tn x = 0 → Inc l e x y → (e, y) ∈ s.st x
  tk : ∀ x e y, 0 < s.tn x → Inc l e x y → (e, y) ∉ s.st x → 0 < s.tn y
  lf : ∀ x, 0 < s.tn x → x ∉ s.path → s.st x = []
  old : ∀ x e y, 0 < s.tn x → s.tn x ≤ τ → Inc l e x y → 0 < s.tn y ∧ s.tn y ≤ τ
  pt : ∀ x, x ∈ s.path → τ < s.tn x
  pw : s.path.Pairwise (fun a b => s.tn a < s.tn b)
  lk : ∀ i a b, s.path[i]? = some a → s.path[i + 1]? = some b → ∃ e : Nat, s.ba b = (e : Nat) ∧ Inc l e a b
  rt : ∀ a, s.path[0]? = some a → s.ba a = -1 ∧ s.tn a = τ + 1
  an : ∀ x, τ < s.tn x → s.path ≠ [] → anc x ∈ s.path ∧ s.tn (anc x) ≤ s.tn x ∧ ∀ p, p ∈ s.path → s.tn p ≤ s.tn x → s.tn p ≤ s.tn (anc x)
  lo : ∀ x e y, τ < s.tn x → s.path ≠ [] → Inc l e x y → (e, y) ∉ s.st x → s.ba (anc x) = (e : Nat) ∨ s.lw (anc x) ≤ s.tn y
  wi : ∀ p, p ∈ s.path → ∃ q, q ∈ s.path ∧ s.lw p = s.tn q ∧ s.tn q ≤ s.tn p ∧ Jn l (fun e => ∀ a, a ∈ s.path → s.tn q < s.tn a → s.tn a ≤ s.tn p → s.ba a ≠ (e : Nat)) p q
  ml : ∀ x e y, 0 < s.tn x → x ∉ s.path → y ∈ s.path → Inc l e x y → s.tn y < s.tn x
  opw : s.op.Pairwise (fun a b => s.tn a < s.tn b)
  opt : ∀ x, x ∈ s.op → τ < s.tn x
  oph : ∀ x, x ∈ s.path → x ∈ s.op
  oe : s.path = [] → s.op = []
  fo : ∀ x, x ∈ s.op → Jn l (Firm l) x (anc x)
  sh : ∀ x e y, 0 < s.tn x → x ∉ s.op → Inc l e x y → e ∈ s.br ∨ (0 < s.tn y ∧ y ∉ s.op ∧ s.bl y = s.bl x)
  blk : ∀ x, 0 < s.tn x → x ∉ s.op → s.bl x ≤ x ∧ Jn l (Firm l) (s.bl x) x
  brb : ∀ e, e ∈ s.br → e < l.length ∧ ¬ Firm l e
  brx : ∀ e, e ∈ s.br → ∃ x y, Inc l e x y ∧ 0 < s.tn x ∧ x ∉ s.path
  brn : s.br.Nodup
  te : ∀ x (e : Nat), 0 < s.tn x → x ∉ s.path → s.ba x = (e : Nat) → e ∈ s.br ∨ Firm l e
  ct : ∀ x y, τ < s.tn x → τ < s.tn y → Jn l (Tree8 s) x y
  co : ∀ x e y, 0 < s.tn x → s.tn x ≤ τ → Inc l e x y → Jn l (Tree8 s) x y

section
variable {l : List (Nat × Nat)} {n τ : Nat} {anc : Nat → Nat} {s : Dst}
theorem pw_last {tn : Nat → Nat} {ps : List Nat} {p : Nat} (h : (ps ++ [p]).Pairwise (fun a b => tn a < tn b)) : ∀ q, q ∈ ps → tn q < tn p := fun q hq => by
  rw [List.pairwise_append] at h
  exact h.2.2 q hq p (by simp)
theorem Dv.top (h : Dv l n τ anc s) {ps : List Nat} {p : Nat} (hp : s.path = ps ++ [p]) : p ∈ s.path ∧ anc p = p ∧ (∀ q, q ∈ s.path → q ≠ p → s.tn q < s.tn p) ∧ (∀ q, q ∈ s.path → q = p ∨ q ∈ ps) ∧ p ∉ ps ∧ 0 < s.tn p ∧ s.path ≠ [] := by
  have hm : p ∈ s.path := by rw [hp]; simp
  have hl := pw_last (hp ▸ h.pw)
  have h0 : s.path ≠ [] := by rw [hp]; simp
  have ht := h.pt p hm
  obtain ⟨a1, a2, a3⟩ := h.an p ht h0
  have hor : ∀ q, q ∈ s.path → q = p ∨ q ∈ ps := fun q hq => by
    rw [hp] at hq
    rcases List.mem_append.1 hq with hq | hq
    · exact .inr hq
    · exact .inl (by simpa using hq)
  refine ⟨hm, ?_, fun q hq hne => ?_, hor, fun hc => absurd (hl p hc) (by omega), by omega, h0⟩
  · have := a3 p hm (Nat.le_refl _)
    exact h.inj _ _ (by have := h.pt _ a1; omega) (by omega)
  · rcases hor q hq with e | e
    · exact absurd e hne
    · exact hl q e
/-- Whoever of the way was come to by an edge: it is one of its ends, and the one ahead is the other. -/
theorem Dv.ahead (h : Dv l n τ anc s) {a : Nat} (ha : a ∈ s.path) {e : Nat} (he : s.ba a = (e : Nat)) : ∃ b, b ∈ s.path ∧ Inc l e b a ∧ s.tn b < s.tn a := by
  obtain ⟨i, hi, rfl⟩ := List.getElem_of_mem ha
  cases i with
  | zero =>
    have := (h.rt _ (List.getElem?_eq_getElem hi)).1
    omega
  | succ i =>
    obtain ⟨e', h1, h2⟩ := h.lk i _ _ (List.getElem?_eq_getElem (by omega)) (List.getElem?_eq_getElem hi)
    rw [he] at h1
    have h3 : e = e' := by omega
    subst h3
    exact ⟨s.path[i], List.getElem_mem _, h2, List.pairwise_iff_getElem.1 h.pw _ _ _ _ (by omega)⟩

/-- Back over the edge by which it came. -/
theorem Dv.back (h : Dv l n τ anc s) {ps : List Nat} {p e y : Nat} {t : List (Nat × Nat)} (hp : s.path = ps ++ [p]) (hs : s.st p = (e, y) :: t) (he : s.ba p = (e : Nat)) : Dv l n τ anc { s with st := put8 s.st p t } := by
  obtain ⟨hm, hap, htop, hor, hnp, htp, h0⟩ := h.top hp
  have hsub : ∀ x e' y', (e', y') ∈ put8 s.st p t x → (e', y') ∈ s.st x := fun x e' y' hx => by
    by_cases q : x = p
    · subst q; rw [put8_at] at hx; rw [hs]; exact List.mem_cons_of_mem _ hx
    · rwa [put8_ne _ _ q] at hx
  have hnew : ∀ x e' y', (e', y') ∉ put8 s.st p t x → (e', y') ∉ s.st x ∨ (x = p ∧ e' = e ∧ y' = y) := fun x e' y' hx => by
    by_cases q : x = p
    · subst q
      rw [put8_at] at hx
      by_cases q2 : (e', y') = (e, y)
      · simp only [Prod.mk.injEq] at q2; exact .inr ⟨rfl, q2⟩
      · refine .inl fun hc => ?_
        rw [hs] at hc
        rcases List.mem_cons.1 hc with hc | hc
        · exact q2 hc
        · exact hx hc
    · rw [put8_ne _ _ q] at hx; exact .inl hx
  have hI : Inc l e p y := h.stI p e y (by rw [hs]; simp)
  exact { h with
    stI := fun x e' y' hx => h.stI x e' y' (hsub _ _ _ hx)
    un := fun x e' y' hx hi => by
      show (e', y') ∈ put8 s.st p t x
      rw [put8_ne _ _ (fun q => by subst q; exact absurd hx (by show s.tn x ≠ 0; omega))]
      exact h.un x e' y' hx hi
    tk := fun x e' y' hx hi hn => by
      rcases hnew x e' y' hn with q | ⟨rfl, rfl, rfl⟩
      · exact h.tk x e' y' hx hi q
      · obtain ⟨b, hb, hib, _⟩ := h.ahead hm he
        have hbt := h.pt b hb
        rcases hib.ends hi with ⟨q1, q2⟩ | ⟨q1, q2⟩
        · subst q1; exact absurd (hi.ends hib) (by show ¬ _; have := htop; intro hh; simp_all)
        · subst q2; show 0 < s.tn y'; omega
    lf := fun x hx hn => by
      show put8 s.st p t x = []
      rw [put8_ne _ _ (fun q => by subst q; exact hn hm)]
      exact h.lf x hx hn
    lo := fun x e' y' hx hq hi hn => by
      rcases hnew x e' y' hn with q | ⟨rfl, rfl, rfl⟩
      · exact h.lo x e' y' hx hq hi q
      · rw [hap]; exact .inl he }
theorem pop_sub {st : Nat → List (Nat × Nat)} {p e y : Nat} {t : List (Nat × Nat)} (hs : st p = (e, y) :: t) : ∀ x e' y', (e', y') ∈ put8 st p t x → (e', y') ∈ st x := fun x e' y' hx => by
  by_cases q : x = p
  · subst q; rw [put8_at] at hx; rw [hs]; exact List.mem_cons_of_mem _ hx
  · rwa [put8_ne _ _ q] at hx
theorem pop_new {st : Nat → List (Nat × Nat)} {p e y : Nat} {t : List (Nat × Nat)} (hs : st p = (e, y) :: t) : ∀ x e' y', (e', y') ∉ put8 st p t x → (e', y') ∉ st x ∨ (x = p ∧ e' = e ∧ y' = y) := fun x e' y' hx => by
  by_cases q : x = p
  · subst q
    rw [put8_at] at hx
    by_cases q2 : (e', y') = (e, y)
    · simp only [Prod.mk.injEq] at q2; exact .inr ⟨rfl, q2⟩
    · refine .inl fun hc => ?_
      rw [hs] at hc
      rcases List.mem_cons.1 hc with hc | hc
      · exact q2 hc
      · exact hx hc
  · rw [put8_ne _ _ q] at hx; exact .inl hx
/-- A step to where it was already. -/
theorem Dv.low (h : Dv l n τ anc s) {ps : List Nat} {p e y : Nat} {t : List (Nat × Nat)} (hp : s.path = ps ++ [p]) (hs : s.st p = (e, y) :: t) (he : s.ba p ≠ (e : Nat)) (hy : 0 < s.tn y) :
    Dv l n τ anc { s with st := put8 s.st p t, lw := put8 s.lw p (min (s.lw p) (s.tn y)) } := by
  obtain ⟨hm, hap, htop, hor, hnp, htp, h0⟩ := h.top hp
  have hI : Inc l e p y := h.stI p e y (by rw [hs]; simp)
  exact { h with
    stI := fun x e' y' hx => h.stI x e' y' (pop_sub hs _ _ _ hx)
    un := fun x e' y' hx hi => by
      show (e', y') ∈ put8 s.st p t x
      rw [put8_ne _ _ (fun q => by subst q; exact absurd hx (by show s.tn x ≠ 0; omega))]
      exact h.un x e' y' hx hi
    tk := fun x e' y' hx hi hn => by
      rcases pop_new hs x e' y' hn with q | ⟨rfl, rfl, rfl⟩
      · exact h.tk x e' y' hx hi q
      · exact hy
    lf := fun x hx hn => by
      show put8 s.st p t x = []
      rw [put8_ne _ _ (fun q => by subst q; exact hn hm)]
      exact h.lf x hx hn
    lo := fun x e' y' hx hq hi hn => by
      show s.ba (anc x) = (e' : Nat) ∨ put8 s.lw p (min (s.lw p) (s.tn y)) (anc x) ≤ s.tn y'
      rcases pop_new hs x e' y' hn with q | ⟨rfl, rfl, rfl⟩
      · rcases h.lo x e' y' hx hq hi q with k | k
        · exact .inl k
        · refine .inr ?_
          by_cases q2 : anc x = p
          · rw [q2, put8_at]; rw [q2] at k; omega
          · rw [put8_ne _ _ q2]; exact k
      · rw [hap, put8_at]; exact .inr (by omega)
    wi := fun p' hp' => by
      show ∃ q, q ∈ s.path ∧ put8 s.lw p (min (s.lw p) (s.tn y)) p' = s.tn q ∧ _
      by_cases q : p' = p
      · subst q
        rw [put8_at]
        by_cases q2 : s.lw p' ≤ s.tn y
        · rw [Nat.min_eq_left q2]; exact h.wi p' hp'
        · rw [Nat.min_eq_right (by omega)]
          obtain ⟨q', hq', h1, h2, _⟩ := h.wi p' hp'
          have hyp : y ∈ s.path := by
            apply Classical.byContradiction
            intro hc
            have := h.ml y e p' hy hc hm hI.symm
            omega
          refine ⟨y, hyp, rfl, by show s.tn y ≤ s.tn p'; omega, Inc.jn hI fun a ha h3 h4 h5 => ?_⟩
          obtain ⟨b, _, hib, _⟩ := h.ahead ha h5
          rcases hI.ends hib with ⟨_, z⟩ | ⟨_, z⟩
          · subst z; omega
          · subst z; exact he h5
      · rw [put8_ne _ _ q]; exact h.wi p' hp' }
/-- A step to a vertex where it was not yet. -/
theorem Dv.enter (h : Dv l n τ anc s) (hl : ∀ x, x ∈ l → x.1 < n ∧ x.2 < n) {ps : List Nat} {p e v : Nat} {t : List (Nat × Nat)} (hp : s.path = ps ++ [p]) (hs : s.st p = (e, v) :: t) (hv : s.tn v = 0) :
    Dv l n τ (put8 anc v v) { s with st := put8 s.st p t, ba := put8 s.ba v (e : Nat), tn := put8 s.tn v (s.turns + 1), lw := put8 s.lw v (s.turns + 1), path := s.path ++ [v], op := s.op ++ [v], turns := s.turns + 1 } := by
  obtain ⟨hm, hap, htop, hor, hnp, htp, h0⟩ := h.top hp
  have hI : Inc l e p v := h.stI p e v (by rw [hs]; simp)
  have hne : ∀ x, 0 < s.tn x → x ≠ v := fun x hx q => by subst q; omega
  have hpv := hne p htp
  have htn : ∀ x, x ≠ v → put8 s.tn v (s.turns + 1) x = s.tn x := fun x q => put8_ne _ _ q
  have htv : put8 s.tn v (s.turns + 1) v = s.turns + 1 := put8_at _ _ _
  have hpos : ∀ x, 0 < put8 s.tn v (s.turns + 1) x → x = v ∨ (x ≠ v ∧ 0 < s.tn x) := fun x hx => by
    by_cases q : x = v
    · exact .inl q
    · rw [htn x q] at hx; exact .inr ⟨q, hx⟩
  have hgt : ∀ x, τ < put8 s.tn v (s.turns + 1) x → x = v ∨ (x ≠ v ∧ τ < s.tn x) := fun x hx => by
    by_cases q : x = v
    · exact .inl q
    · rw [htn x q] at hx; exact .inr ⟨q, hx⟩
  have hpath : ∀ x, x ∈ s.path → x ≠ v := fun x hx => hne x (by have := h.pt x hx; omega)
  have hop : ∀ x, x ∈ s.op → x ≠ v := fun x hx => hne x (by have := h.opt x hx; omega)
  have htaken : ∀ x e' y', x ≠ v → 0 < s.tn x → Inc l e' x y' → (e', y') ∉ put8 s.st p t x → y' ≠ v ∨ (x = p ∧ e' = e ∧ y' = v) := fun x e' y' hxv hx hi hn => by
    rcases pop_new hs x e' y' hn with q | q
    · exact .inl (hne _ (h.tk x e' y' hx hi q))
    · exact .inr q
  have htree : ∀ i, Tree8 s i → Tree8 { s with st := put8 s.st p t, ba := put8 s.ba v (e : Nat), tn := put8 s.tn v (s.turns + 1), lw := put8 s.lw v (s.turns + 1), path := s.path ++ [v], op := s.op ++ [v], turns := s.turns + 1 } i := fun i ⟨x, hx, hb⟩ => by
    refine ⟨x, ?_, ?_⟩
    · show 0 < put8 s.tn v (s.turns + 1) x
      rw [htn x (hne x hx)]; exact hx
    · show put8 s.ba v (e : Nat) x = _
      rw [put8_ne _ _ (hne x hx)]; exact hb
  have hjoin : Jn l (Tree8 { s with st := put8 s.st p t, ba := put8 s.ba v (e : Nat), tn := put8 s.tn v (s.turns + 1), lw := put8 s.lw v (s.turns + 1), path := s.path ++ [v], op := s.op ++ [v], turns := s.turns + 1 }) p v :=
    Inc.jn hI ⟨v, by show 0 < put8 s.tn v (s.turns + 1) v; rw [htv]; omega, by show put8 s.ba v (e : Nat) v = _; rw [put8_at]⟩
  constructor
  case tle => intro x; show put8 s.tn v (s.turns + 1) x ≤ s.turns + 1; by_cases q : x = v
              · rw [q, htv]; omega
              · rw [htn x q]; have := h.tle x; omega
  case tau => show τ ≤ s.turns + 1; have := h.tau; omega
  case inj =>
    intro x y hx hxy
    have hx' : 0 < put8 s.tn v (s.turns + 1) x := hx
    have hxy' : put8 s.tn v (s.turns + 1) x = put8 s.tn v (s.turns + 1) y := hxy
    have t1 := h.tle x
    have t2 := h.tle y
    by_cases q : x = v
    · by_cases q2 : y = v
      · rw [q, q2]
      · rw [q, htv, htn y q2] at hxy'; omega
    · by_cases q2 : y = v
      · rw [q2, htv, htn x q] at hxy'; omega
      · rw [htn x q] at hx'
        rw [htn x q, htn y q2] at hxy'
        exact h.inj x y hx' hxy'
  case lt =>
    intro x hx
    rcases hpos x hx with rfl | ⟨_, q⟩
    · rcases hI with hI | hI
      · exact (hl _ (List.mem_of_getElem? hI)).2
      · exact (hl _ (List.mem_of_getElem? hI)).1
    · exact h.lt x q
  case stI => exact fun x e' y' hx => h.stI x e' y' (pop_sub hs _ _ _ hx)
  case un =>
    intro x e' y' hx hi
    have hx' : put8 s.tn v (s.turns + 1) x = 0 := hx
    by_cases q : x = v
    · rw [q, htv] at hx'; omega
    · rw [htn x q] at hx'
      show (e', y') ∈ put8 s.st p t x
      rw [put8_ne _ _ (fun q => by subst q; omega)]
      exact h.un x e' y' hx' hi
  case tk =>
    intro x e' y' hx hi hn
    show 0 < put8 s.tn v (s.turns + 1) y'
    rcases hpos x hx with rfl | ⟨q0, q⟩
    · have : (e', y') ∉ put8 s.st p t x := hn
      rw [put8_ne _ _ (Ne.symm hpv)] at this
      exact absurd (h.un x e' y' hv hi) this
    · rcases pop_new hs x e' y' hn with q1 | ⟨_, _, rfl⟩
      · have := h.tk x e' y' q hi q1
        rw [htn _ (hne _ this)]; exact this
      · rw [htv]; omega
  case lf =>
    intro x hx hn
    have hn' : x ∉ s.path ++ [v] := hn
    simp only [List.mem_append, List.mem_singleton, not_or] at hn'
    show put8 s.st p t x = []
    rw [put8_ne _ _ (fun q => by subst q; exact hn'.1 hm)]
    rcases hpos x hx with q | ⟨_, q⟩
    · exact absurd q hn'.2
    · exact h.lf x q hn'.1
  case old =>
    intro x e' y' hx hxt hi
    show 0 < put8 s.tn v (s.turns + 1) y' ∧ put8 s.tn v (s.turns + 1) y' ≤ τ
    have hxt' : put8 s.tn v (s.turns + 1) x ≤ τ := hxt
    rcases hpos x hx with rfl | ⟨q0, q⟩
    · rw [htv] at hxt'; have := h.tau; omega
    · rw [htn x q0] at hxt'
      have := h.old x e' y' q hxt' hi
      rw [htn _ (hne _ this.1)]; exact this
  case pt =>
    intro x hx
    show τ < put8 s.tn v (s.turns + 1) x
    rcases List.mem_append.1 hx with q | q
    · rw [htn _ (hpath x q)]; exact h.pt x q
    · simp only [List.mem_singleton] at q; rw [q, htv]; have := h.tau; omega
  case pw =>
    show (s.path ++ [v]).Pairwise (fun a b => put8 s.tn v (s.turns + 1) a < put8 s.tn v (s.turns + 1) b)
    rw [List.pairwise_append]
    refine ⟨h.pw.imp_of_mem fun ha hb hab => ?_, by simp, fun a ha b hb => ?_⟩
    · rw [htn _ (hpath _ ha), htn _ (hpath _ hb)]; exact hab
    · simp only [List.mem_singleton] at hb
      rw [hb, htv, htn _ (hpath _ ha)]; have := h.tle a; omega
  case lk =>
    intro i a b ha hb
    have ha' : (s.path ++ [v])[i]? = some a := ha
    have hb' : (s.path ++ [v])[i + 1]? = some b := hb
    have hlen : s.path.length = ps.length + 1 := by rw [hp]; simp
    have hi2 := (List.getElem?_eq_some_iff.1 hb').1
    simp only [List.length_append, List.length_cons, List.length_nil] at hi2
    show ∃ e' : Nat, put8 s.ba v (e : Nat) b = (e' : Nat) ∧ Inc l e' a b
    rw [List.getElem?_append_left (by omega)] at ha'
    by_cases q : i + 1 < s.path.length
    · rw [List.getElem?_append_left q] at hb'
      rw [put8_ne _ _ (hpath _ (List.mem_of_getElem? hb'))]
      exact h.lk i a b ha' hb'
    · rw [List.getElem?_append_right (by omega), show i + 1 - s.path.length = 0 by omega] at hb'
      simp only [List.getElem?_cons_zero, Option.some.injEq] at hb'
      subst hb'
      rw [put8_at]
      rw [hp, List.getElem?_append_right (by omega), show i - ps.length = 0 by omega] at ha'
      simp only [List.getElem?_cons_zero, Option.some.injEq] at ha'
      subst ha'
      exact ⟨e, rfl, hI⟩
  case rt =>
    intro a ha
    have ha' : (s.path ++ [v])[0]? = some a := ha
    rw [List.getElem?_append_left (List.length_pos_iff.2 h0)] at ha'
    show put8 s.ba v (e : Nat) a = -1 ∧ put8 s.tn v (s.turns + 1) a = τ + 1
    rw [put8_ne _ _ (hpath _ (List.mem_of_getElem? ha')), htn _ (hpath _ (List.mem_of_getElem? ha'))]
    exact h.rt a ha'
  case an =>
    intro x hx _
    show put8 anc v v x ∈ s.path ++ [v] ∧ put8 s.tn v (s.turns + 1) (put8 anc v v x) ≤ put8 s.tn v (s.turns + 1) x ∧ ∀ p', p' ∈ s.path ++ [v] → put8 s.tn v (s.turns + 1) p' ≤ put8 s.tn v (s.turns + 1) x → put8 s.tn v (s.turns + 1) p' ≤ put8 s.tn v (s.turns + 1) (put8 anc v v x)
    rcases hgt x hx with rfl | ⟨q0, q⟩
    · rw [put8_at anc]
      exact ⟨by simp, Nat.le_refl _, fun _ _ h => h⟩
    · obtain ⟨a1, a2, a3⟩ := h.an x q h0
      rw [put8_ne anc _ q0, htn _ (hpath _ a1), htn x q0]
      refine ⟨List.mem_append_left _ a1, a2, fun p' hp' h' => ?_⟩
      rcases List.mem_append.1 hp' with z | z
      · rw [htn _ (hpath _ z)] at h' ⊢; exact a3 p' z h'
      · simp only [List.mem_singleton] at z
        rw [z, htv] at h'
        have := h.tle x
        omega
  case lo =>
    intro x e' y' hx _ hi hn
    show put8 s.ba v (e : Nat) (put8 anc v v x) = (e' : Nat) ∨ put8 s.lw v (s.turns + 1) (put8 anc v v x) ≤ put8 s.tn v (s.turns + 1) y'
    rcases hgt x hx with rfl | ⟨q0, q⟩
    · have : (e', y') ∉ put8 s.st p t x := hn
      rw [put8_ne _ _ (Ne.symm hpv)] at this
      exact absurd (h.un x e' y' hv hi) this
    · obtain ⟨a1, a2, a3⟩ := h.an x q h0
      rw [put8_ne anc _ q0, put8_ne s.ba _ (hpath _ a1), put8_ne s.lw _ (hpath _ a1)]
      rcases pop_new hs x e' y' hn with q1 | ⟨rfl, rfl, rfl⟩
      · rw [htn _ (hne _ (h.tk x e' y' (by omega) hi q1))]
        exact h.lo x e' y' q h0 hi q1
      · rw [htv]
        obtain ⟨q', hq', h1, h2, _⟩ := h.wi _ a1
        have := h.tle (anc x)
        exact .inr (by omega)
  case wi =>
    intro p' hp'
    show ∃ q, q ∈ s.path ++ [v] ∧ put8 s.lw v (s.turns + 1) p' = put8 s.tn v (s.turns + 1) q ∧ put8 s.tn v (s.turns + 1) q ≤ put8 s.tn v (s.turns + 1) p' ∧ Jn l (fun e' => ∀ a, a ∈ s.path ++ [v] → put8 s.tn v (s.turns + 1) q < put8 s.tn v (s.turns + 1) a → put8 s.tn v (s.turns + 1) a ≤ put8 s.tn v (s.turns + 1) p' → put8 s.ba v (e : Nat) a ≠ (e' : Nat)) p' q
    rcases List.mem_append.1 hp' with z | z
    · obtain ⟨q', hq', h1, h2, h3⟩ := h.wi p' z
      refine ⟨q', List.mem_append_left _ hq', ?_, ?_, h3.mono fun i hi a ha k1 k2 => ?_⟩
      · rw [put8_ne s.lw _ (hpath _ z), htn _ (hpath _ hq')]; exact h1
      · rw [htn _ (hpath _ z), htn _ (hpath _ hq')]; exact h2
      · rcases List.mem_append.1 ha with za | za
        · rw [htn _ (hpath _ hq'), htn _ (hpath _ za)] at k1
          rw [htn _ (hpath _ z), htn _ (hpath _ za)] at k2
          rw [put8_ne s.ba _ (hpath _ za)]
          exact hi a za k1 k2
        · simp only [List.mem_singleton] at za
          rw [za, htv, htn _ (hpath _ z)] at k2
          have := h.tle p'
          omega
    · simp only [List.mem_singleton] at z
      subst z
      exact ⟨p', hp', by rw [put8_at, put8_at], Nat.le_refl _, Jn.refl⟩
  case ml =>
    intro x e' y' hx hn hy hi
    have hn' : x ∉ s.path ++ [v] := hn
    simp only [List.mem_append, List.mem_singleton, not_or] at hn'
    show put8 s.tn v (s.turns + 1) y' < put8 s.tn v (s.turns + 1) x
    rcases hpos x hx with q | ⟨q0, q⟩
    · exact absurd q hn'.2
    · have hst := h.lf x q hn'.1
      have hy0 := h.tk x e' y' q hi (by rw [hst]; simp)
      rcases List.mem_append.1 hy with z | z
      · rw [htn _ (hpath _ z), htn _ q0]; exact h.ml x e' y' q hn'.1 z hi
      · simp only [List.mem_singleton] at z
        exact absurd z (hne _ hy0)
  case opw =>
    show (s.op ++ [v]).Pairwise (fun a b => put8 s.tn v (s.turns + 1) a < put8 s.tn v (s.turns + 1) b)
    rw [List.pairwise_append]
    refine ⟨h.opw.imp_of_mem fun ha hb hab => ?_, by simp, fun a ha b hb => ?_⟩
    · rw [htn _ (hop _ ha), htn _ (hop _ hb)]; exact hab
    · simp only [List.mem_singleton] at hb
      rw [hb, htv, htn _ (hop _ ha)]; have := h.tle a; omega
  case opt =>
    intro x hx
    show τ < put8 s.tn v (s.turns + 1) x
    rcases List.mem_append.1 hx with q | q
    · rw [htn _ (hop x q)]; exact h.opt x q
    · simp only [List.mem_singleton] at q; rw [q, htv]; have := h.tau; omega
  case oph =>
    intro x hx
    show x ∈ s.op ++ [v]
    rcases List.mem_append.1 hx with q | q
    · exact List.mem_append_left _ (h.oph x q)
    · exact List.mem_append_right _ q
  case oe => intro hc; have hc' : s.path ++ [v] = [] := hc; simp at hc'
  case fo =>
    intro x hx
    show Jn l (Firm l) x (put8 anc v v x)
    rcases List.mem_append.1 hx with q | q
    · rw [put8_ne _ _ (hop x q)]; exact h.fo x q
    · simp only [List.mem_singleton] at q; rw [q, put8_at]; exact Jn.refl
  case sh =>
    intro x e' y' hx hn hi
    have hn' : x ∉ s.op ++ [v] := hn
    simp only [List.mem_append, List.mem_singleton, not_or] at hn'
    show e' ∈ s.br ∨ (0 < put8 s.tn v (s.turns + 1) y' ∧ y' ∉ s.op ++ [v] ∧ s.bl y' = s.bl x)
    rcases hpos x hx with q | ⟨q0, q⟩
    · exact absurd q hn'.2
    · rcases h.sh x e' y' q hn'.1 hi with k | ⟨k1, k2, k3⟩
      · exact .inl k
      · refine .inr ⟨by rw [htn _ (hne _ k1)]; exact k1, ?_, k3⟩
        simp only [List.mem_append, List.mem_singleton, not_or]
        exact ⟨k2, hne _ k1⟩
  case blk =>
    intro x hx hn
    have hn' : x ∉ s.op ++ [v] := hn
    simp only [List.mem_append, List.mem_singleton, not_or] at hn'
    rcases hpos x hx with q | ⟨q0, q⟩
    · exact absurd q hn'.2
    · exact h.blk x q hn'.1
  case brb => exact h.brb
  case brx =>
    intro e' he'
    obtain ⟨x, y, h1, h2, h3⟩ := h.brx e' he'
    refine ⟨x, y, h1, by show 0 < put8 s.tn v (s.turns + 1) x; rw [htn _ (hne _ h2)]; exact h2, ?_⟩
    show x ∉ s.path ++ [v]
    simp only [List.mem_append, List.mem_singleton, not_or]
    exact ⟨h3, hne _ h2⟩
  case brn => exact h.brn
  case te =>
    intro x e' hx hn hb
    have hn' : x ∉ s.path ++ [v] := hn
    simp only [List.mem_append, List.mem_singleton, not_or] at hn'
    have hb' : put8 s.ba v (e : Nat) x = (e' : Nat) := hb
    rcases hpos x hx with q | ⟨q0, q⟩
    · exact absurd q hn'.2
    · rw [put8_ne _ _ q0] at hb'
      exact h.te x e' q hn'.1 hb'
  case ct =>
    have one : ∀ x, τ < put8 s.tn v (s.turns + 1) x → Jn l (Tree8 { s with st := put8 s.st p t, ba := put8 s.ba v (e : Nat), tn := put8 s.tn v (s.turns + 1), lw := put8 s.lw v (s.turns + 1), path := s.path ++ [v], op := s.op ++ [v], turns := s.turns + 1 }) x p := fun x hx => by
      rcases hgt x hx with rfl | ⟨q0, q⟩
      · exact hjoin.symm
      · exact (h.ct x p q (h.pt p hm)).mono htree
    intro x y hx hy
    exact (one x hx).trans (one y hy).symm
  case co =>
    intro x e' y' hx hxt hi
    have hxt' : put8 s.tn v (s.turns + 1) x ≤ τ := hxt
    rcases hpos x hx with rfl | ⟨q0, q⟩
    · rw [htv] at hxt'; have := h.tau; omega
    · rw [htn x q0] at hxt'
      exact (h.co x e' y' q hxt' hi).mono htree
end
end Go.Proofs.Ytanahbkkgppfnaa
