/- The map of a least spanning forest's edges by their IDs, under a label. No program but its types. -/
import Derived.Test.YtffmlffhiimmdaaCutW
namespace Go.Proofs.Ytffmlffhiimmdaa
set_option linter.unusedVariables false

section
variable {n : Nat} {ed : Nat → Option Ed} {R : Nat → List Nat}
/-- A way, cut at a vertex on it. -/
theorem way_cut (hT : Rt (liveN n ed) R) {u v x : Nat} (hu : u < n) (hv : v < n) (hx : x < n) (hd : (R (2 * u + 1)).head? = (R (2 * v + 1)).head?) (hdx : (R (2 * u + 1)).head? = (R (2 * x + 1)).head?) {A B : List Nat} (e : way R u v = A ++ (2 * x + 1) :: B) :
    way R u x = A ++ [2 * x + 1] ∧ way R x v = (2 * x + 1) :: B := by
  have lu : liveN n ed (2 * u + 1) := liveN_v hu
  have lv : liveN n ed (2 * v + 1) := liveN_v hv
  refine ⟨?_, ?_⟩
  · rw [way_turn hdx]
    rw [way_turn hd] at e
    exact (hT.turn lu).at lv e
  · have e2 : way R v u = B.reverse ++ (2 * x + 1) :: A.reverse := by rw [way_back hT hu hv hd, e]; simp
    rw [way_turn hd.symm] at e2
    have := (hT.turn lv).at lu e2
    rw [← way_turn (hd.symm.trans hdx)] at this
    rw [way_back hT hv hx (hd.symm.trans hdx), this]; simp
/-- What follows upon a vertex on a way: an edge of it, and the other end. -/
theorem way_next (A0 : Alt n ed R) (ok : EdOk n ed) (hT : Rt (liveN n ed) R) {u v x : Nat} (hu : u < n) (hv : v < n) (hx : x < n) (hd : (R (2 * u + 1)).head? = (R (2 * v + 1)).head?) {A B : List Nat} {zz : Nat} (e : way R u v = A ++ (2 * x + 1) :: zz :: B) :
    ∃ i y b B', zz = 2 * i + 2 ∧ ed i = some y ∧ B = (2 * b + 1) :: B' ∧ b < n ∧ ((x = y.u ∧ b = y.v) ∨ (x = y.v ∧ b = y.u)) := by
  have lu : liveN n ed (2 * u + 1) := liveN_v hu
  have lv : liveN n ed (2 * v + 1) := liveN_v hv
  have lx : liveN n ed (2 * x + 1) := liveN_v hx
  have At := A0.turn ok hT hu
  have hT2 := hT.turn lu
  rw [way_turn hd] at e
  have ex := hT2.at lv e
  have e3 : turnR R (2 * u + 1) (2 * v + 1) = (A ++ [2 * x + 1]) ++ zz :: B := by rw [e]; simp
  have ez := hT2.at lv e3
  have lz : liveN n ed zz := hT2.mem _ lv zz (by rw [e3]; simp)
  obtain ⟨pv, hpv⟩ := hT2.last _ lv
  rcases live_cases lz with ⟨i, y, rfl, hy⟩ | ⟨c, rfl, hc⟩
  · obtain ⟨a, b, ab, ea, eb⟩ := At.e i y hy
    obtain ⟨_, o1, o2, _⟩ := ok i y hy
    obtain ⟨pa, hpa⟩ := hT2.last _ (liveN_v (ed := ed) (show a < n by omega))
    rw [ea, hpa] at ez
    have q := (last_eq ez).1
    have ax : 2 * a + 1 = 2 * x + 1 := (last_eq q).2
    have ax : a = x := by omega
    cases B with
    | nil =>
      rw [hpv] at e3
      have := (last_eq (p := pv) (q := A ++ [2 * x + 1]) (by rw [e3])).2
      omega
    | cons d B' =>
      have e4 : turnR R (2 * u + 1) (2 * v + 1) = (A ++ [2 * x + 1, 2 * i + 2]) ++ d :: B' := by rw [e]; simp
      have ed4 := hT2.at lv e4
      have ld : liveN n ed d := hT2.mem _ lv d (by rw [e4]; simp)
      have ez2 := hT2.at lv e3
      have : d = 2 * b + 1 := At.next_e ok hT2 hy ld (by rw [ed4, ez2]; simp) ab ea
      exact ⟨i, y, b, B', rfl, hy, by rw [this], by omega, by omega⟩
  · exfalso
    rcases At.v c hc with q | ⟨j, y, hy, _, q⟩
    · rw [q] at ez
      have := congrArg List.length ez
      simp at this
    · rw [q] at ez
      have e5 := (last_eq ez).1
      obtain ⟨pj, hpj⟩ := hT2.last _ (liveN_e.2 (show (ed j).isSome = true by rw [hy]; rfl) : liveN n ed (2 * j + 2))
      rw [hpj] at e5
      have := (last_eq e5).2
      omega
end

end Go.Proofs.Ytffmlffhiimmdaa
namespace Go.Proofs.Ytffmlffhiimmdaa
set_option linter.unusedVariables false

/-- Two vertices are joined by edges of a kind: no set that those edges do not leave parts them. -/
def Cn (P : Nat → Prop) (ed : Nat → Option Ed) (a b : Nat) : Prop := ∀ B : Nat → Prop, B a → (∀ i x, ed i = some x → P i → (B x.u ↔ B x.v)) → B b
section
variable {P Q : Nat → Prop} {ed ed' D : Nat → Option Ed} {a b c : Nat}
theorem Cn.refl : Cn P ed a a := fun B h _ => h
theorem Cn.trans (h : Cn P ed a b) (k : Cn P ed b c) : Cn P ed a c := fun B ha hB => k B (h B ha hB) hB
theorem Cn.edge {i : Nat} {x : Ed} (hx : ed i = some x) (hP : P i) : Cn P ed x.u x.v := fun B hu hB => (hB i x hx hP).1 hu
theorem Cn.edge' {i : Nat} {x : Ed} (hx : ed i = some x) (hP : P i) : Cn P ed x.v x.u := fun B hu hB => (hB i x hx hP).2 hu
theorem Cn.symm (h : Cn P ed a b) : Cn P ed b a :=
  h (fun z => Cn P ed z a) Cn.refl fun i x hx hP => ⟨fun k => (Cn.edge' hx hP).trans k, fun k => (Cn.edge hx hP).trans k⟩
theorem Cn.sub (h : Cn P ed a b) (s : ∀ i x, ed i = some x → P i → Cn Q ed' x.u x.v) : Cn Q ed' a b :=
  h (fun z => Cn Q ed' a z) Cn.refl fun i x hx hP => ⟨fun k => k.trans (s i x hx hP), fun k => k.trans (s i x hx hP).symm⟩
theorem Cn.mono (h : Cn P ed a b) (s : ∀ i x, ed i = some x → P i → ed' i = some x ∧ Q i) : Cn Q ed' a b :=
  h.sub fun i x hx hP => Cn.edge (s i x hx hP).1 (s i x hx hP).2
/-- One edge of them is used, or it is not. -/
theorem Cn.one (h : Cn P ed a b) {k : Nat} {y : Ed} (hy : ed k = some y) :
    Cn (fun i => P i ∧ i ≠ k) ed a b ∨ (Cn (fun i => P i ∧ i ≠ k) ed a y.u ∧ Cn (fun i => P i ∧ i ≠ k) ed y.v b) ∨ (Cn (fun i => P i ∧ i ≠ k) ed a y.v ∧ Cn (fun i => P i ∧ i ≠ k) ed y.u b) := by
  refine h (fun z => Cn (fun i => P i ∧ i ≠ k) ed a z ∨ (Cn (fun i => P i ∧ i ≠ k) ed a y.u ∧ Cn (fun i => P i ∧ i ≠ k) ed y.v z) ∨ (Cn (fun i => P i ∧ i ≠ k) ed a y.v ∧ Cn (fun i => P i ∧ i ≠ k) ed y.u z)) (.inl Cn.refl) fun i x hx hP => ?_
  by_cases e : i = k
  · subst e
    rw [hy] at hx
    injection hx with hx
    subst hx
    constructor
    · rintro (q | ⟨q, r⟩ | ⟨q, r⟩)
      · exact .inr (.inl ⟨q, Cn.refl⟩)
      · exact .inr (.inl ⟨q, Cn.refl⟩)
      · exact .inl q
    · rintro (q | ⟨q, r⟩ | ⟨q, r⟩)
      · exact .inr (.inr ⟨q, Cn.refl⟩)
      · exact .inl q
      · exact .inr (.inr ⟨q, Cn.refl⟩)
  · have s : Cn (fun i => P i ∧ i ≠ k) ed x.u x.v := Cn.edge hx ⟨hP, e⟩
    constructor
    · rintro (q | ⟨q, r⟩ | ⟨q, r⟩)
      · exact .inl (q.trans s)
      · exact .inr (.inl ⟨q, r.trans s⟩)
      · exact .inr (.inr ⟨q, r.trans s⟩)
    · rintro (q | ⟨q, r⟩ | ⟨q, r⟩)
      · exact .inl (q.trans s.symm)
      · exact .inr (.inl ⟨q, r.trans s.symm⟩)
      · exact .inr (.inr ⟨q, r.trans s.symm⟩)
end

section
variable {n : Nat} {ed : Nat → Option Ed} {R : Nat → List Nat}
/-- An edge parts those below it from the others. -/
theorem Alt.bridge (A0 : Alt n ed R) {i : Nat} {a b : Nat} (h : Cn (fun k => k ≠ i) ed a b) : 2 * i + 2 ∈ R (2 * a + 1) ↔ 2 * i + 2 ∈ R (2 * b + 1) := by
  refine h (fun z => (2 * i + 2 ∈ R (2 * a + 1) ↔ 2 * i + 2 ∈ R (2 * z + 1))) Iff.rfl fun k x hx hk => ?_
  obtain ⟨c, d, cd, ec, e2⟩ := A0.e k x hx
  have q : 2 * i + 2 ∈ R (2 * c + 1) ↔ 2 * i + 2 ∈ R (2 * d + 1) := by
    rw [e2, ec]
    simp only [List.mem_append, List.mem_cons, List.not_mem_nil, or_false]
    constructor
    · exact fun z => .inl (.inl z)
    · rintro ((z | z) | z)
      · exact z
      · omega
      · omega
  rcases cd with ⟨q1, q2⟩ | ⟨q1, q2⟩
  · subst q1; subst q2; exact ⟨fun z => z.trans q, fun z => z.trans q.symm⟩
  · subst q1; subst q2; exact ⟨fun z => z.trans q.symm, fun z => z.trans q⟩
/-- No ring. -/
theorem Alt.acy (A0 : Alt n ed R) (ok : EdOk n ed) (hT : Rt (liveN n ed) R) {i : Nat} {x : Ed} (hx : ed i = some x) : ¬ Cn (fun k => k ≠ i) ed x.u x.v := fun h => by
  obtain ⟨c, d, cd, ec, e2⟩ := A0.e i x hx
  have li : liveN n ed (2 * i + 2) := liveN_e.2 (by rw [hx]; rfl)
  have nd := hT.nodup _ li
  rw [ec, List.nodup_append] at nd
  have h1 : 2 * i + 2 ∉ R (2 * c + 1) := fun z => nd.2.2 _ z _ (by simp) rfl
  have h2 : 2 * i + 2 ∈ R (2 * d + 1) := by rw [e2, ec]; simp
  have q := A0.bridge h
  rcases cd with ⟨q1, q2⟩ | ⟨q1, q2⟩
  · subst q1; subst q2; exact h1 (q.2 h2)
  · subst q1; subst q2; exact h1 (q.1 h2)
/-- An edge on the way: without it there is none. -/
theorem way_needs (A0 : Alt n ed R) (ok : EdOk n ed) (hT : Rt (liveN n ed) R) {u v i : Nat} (hu : u < n) (hv : v < n) (hd : (R (2 * u + 1)).head? = (R (2 * v + 1)).head?) (hm : 2 * i + 2 ∈ way R u v) : ¬ Cn (fun k => k ≠ i) ed u v := fun h => by
  have q := (A0.turn ok hT hu).bridge h
  rw [way_turn hd] at hm
  have := q.2 hm
  have e : turnR R (2 * u + 1) (2 * u + 1) = [2 * u + 1] := by
    rw [← way_turn rfl, way_self hT hu]
  rw [e] at this
  simp at this
  omega
/-- The way joins. -/
theorem way_joins (A0 : Alt n ed R) (ok : EdOk n ed) (hT : Rt (liveN n ed) R) {u v : Nat} (hu : u < n) (hv : v < n) (hd : (R (2 * u + 1)).head? = (R (2 * v + 1)).head?) : Cn (fun i => 2 * i + 2 ∈ way R u v) ed u v := by
  have lv : liveN n ed (2 * v + 1) := liveN_v hv
  have go : ∀ (m : Nat) (A B : List Nat) (x : Nat), B.length ≤ m → x < n → way R u v = A ++ (2 * x + 1) :: B → Cn (fun i => 2 * i + 2 ∈ way R u v) ed x v := by
    intro m
    induction m with
    | zero =>
      intro A B x hm hx e
      have hB : B = [] := List.length_eq_zero_iff.1 (by omega)
      subst hB
      obtain ⟨p, hp⟩ := (hT.turn (liveN_v (ed := ed) hu)).last _ lv
      rw [← way_turn hd, e] at hp
      have := (last_eq hp).2
      have : x = v := by omega
      subst this
      exact Cn.refl
    | succ m ih =>
      intro A B x hm hx e
      cases B with
      | nil => exact ih A [] x (by simp) hx e
      | cons zz B =>
        obtain ⟨i, y, b, B', rfl, hy, rfl, hb, ends⟩ := way_next A0 ok hT hu hv hx hd e
        have hmem : 2 * i + 2 ∈ way R u v := by rw [e]; simp
        have r := ih (A ++ [2 * x + 1, 2 * i + 2]) B' b (by simp at hm; omega) hb (by rw [e]; simp)
        rcases ends with ⟨q1, q2⟩ | ⟨q1, q2⟩
        · subst q1; subst q2; exact (Cn.edge (P := fun i => 2 * i + 2 ∈ way R u v) hy hmem).trans r
        · subst q1; subst q2; exact (Cn.edge' (P := fun i => 2 * i + 2 ∈ way R u v) hy hmem).trans r
  obtain ⟨B, hB⟩ : ∃ B, way R u v = (2 * u + 1) :: B := by
    have := way_back hT hv hu hd.symm
    obtain ⟨p, hp⟩ := (hT.turn lv).last _ (liveN_v (ed := ed) hu)
    rw [← way_turn hd.symm] at hp
    exact ⟨p.reverse, by rw [this, hp]; simp⟩
  exact go _ [] B u (Nat.le_refl _) hu (by rw [hB]; rfl)
/-- Of one tree: joined. -/
theorem heads_cn (A0 : Alt n ed R) (ok : EdOk n ed) (hT : Rt (liveN n ed) R) {u v : Nat} (hu : u < n) (hv : v < n) : (R (2 * u + 1)).head? = (R (2 * v + 1)).head? ↔ Cn (fun _ => True) ed u v := by
  constructor
  · exact fun h => (way_joins A0 ok hT hu hv h).mono fun i x hx _ => ⟨hx, trivial⟩
  · intro h
    refine (h (fun z => z < n ∧ (R (2 * u + 1)).head? = (R (2 * z + 1)).head?) ⟨hu, rfl⟩ fun i x hx _ => ?_).2
    obtain ⟨c, d, cd, ec, e2⟩ := A0.e i x hx
    obtain ⟨_, o1, o2, _⟩ := ok i x hx
    have li : liveN n ed (2 * i + 2) := liveN_e.2 (by rw [hx]; rfl)
    have h1 := hT.head_of li (y := 2 * c + 1) (by rw [ec]; obtain ⟨p, hp⟩ := hT.last _ (liveN_v (ed := ed) (show c < n by omega)); rw [hp]; simp)
    have h2 := hT.head_of (liveN_v (show d < n by omega)) (y := 2 * i + 2) (by rw [e2]; obtain ⟨p, hp⟩ := hT.last _ li; rw [hp]; simp)
    have h3 := h1.trans h2
    have hen : (R (2 * x.u + 1)).head? = (R (2 * x.v + 1)).head? := by
      rcases cd with ⟨q1, q2⟩ | ⟨q1, q2⟩
      · rw [← q1, ← q2]; exact h3
      · rw [← q1, ← q2]; exact h3.symm
    exact ⟨fun z => ⟨o2, z.2.trans hen⟩, fun z => ⟨o1, z.2.trans hen.symm⟩⟩
end

/-- An edge is the lighter one of both. -/
def lgt (D : Nat → Option Ed) (k i : Nat) : Prop := ∃ x y, D k = some x ∧ D i = some y ∧ (x.w < y.w ∨ (x.w = y.w ∧ k < i))
section
variable {D D' ed ed' : Nat → Option Ed} {i k j : Nat}
theorem lgt.trans (h : lgt D k i) (g : lgt D i j) : lgt D k j := by
  obtain ⟨x, y, a, b, c⟩ := h
  obtain ⟨x', y', a', b', c'⟩ := g
  rw [b] at a'
  injection a' with a'
  subst a'
  exact ⟨x, y', a, b', by omega⟩
theorem lgt.ne (h : lgt D k i) : k ≠ i := fun e => by
  obtain ⟨x, y, a, b, c⟩ := h
  subst e
  rw [b] at a
  injection a with a
  subst a
  omega
theorem lgt.total {x y : Ed} (hx : D k = some x) (hy : D i = some y) (ne : k ≠ i) : lgt D k i ∨ lgt D i k := by
  by_cases h : x.w < y.w ∨ (x.w = y.w ∧ k < i)
  · exact .inl ⟨x, y, hx, hy, h⟩
  · exact .inr ⟨y, x, hy, hx, by omega⟩
theorem lgt.mono (h : lgt D k i) (s : ∀ i x, D i = some x → D' i = some x) : lgt D' k i := by
  obtain ⟨x, y, a, b, c⟩ := h
  exact ⟨x, y, s _ _ a, s _ _ b, c⟩
/-- The least spanning forest of D: edges of it; whichever is not among them is the heaviest of a ring. -/
structure Mf (D ed : Nat → Option Ed) : Prop where
  sub : ∀ i x, ed i = some x → D i = some x
  mini : ∀ i x, D i = some x → ed i = none → Cn (fun k => lgt D k i) ed x.u x.v
theorem Mf.new : Mf (fun _ => none) (fun _ => none) := ⟨fun i x h => by simp at h, fun i x h => by simp at h⟩
/-- What is joined by all edges lighter than one is so by those of the forest. -/
theorem Mf.down (h : Mf D ed) {P : Nat → Prop} (hP : ∀ i k, P i → lgt D k i → P k) {a b : Nat} (c : Cn P D a b) : Cn P ed a b :=
  c.sub fun k x hx hk => by
    cases he : ed k with
    | some y =>
      have := h.sub k y he
      rw [hx] at this
      injection this with this
      subst this
      exact Cn.edge he hk
    | none => exact (h.mini k x hx he).mono fun j z hz hj => ⟨hz, hP k j hk hj⟩
theorem Mf.up (h : Mf D ed) {P : Nat → Prop} {a b : Nat} (c : Cn P ed a b) : Cn P D a b := c.mono fun i x hx hP => ⟨h.sub i x hx, hP⟩
/-- Which edges are of it hangs on D alone. -/
theorem Mf.canon (h : Mf D ed) (acy : ∀ i x, ed i = some x → ¬ Cn (fun k => k ≠ i) ed x.u x.v) {i : Nat} {x : Ed} (hx : D i = some x) : ed i = some x ↔ ¬ Cn (fun k => lgt D k i) D x.u x.v := by
  constructor
  · intro he c
    exact acy i x he ((h.down (fun a b p q => q.trans p) c).mono fun k z hz hk => ⟨hz, hk.ne⟩)
  · intro c
    cases he : ed i with
    | some y =>
      have := h.sub i y he
      rw [hx] at this
      exact this.symm
    | none => exact absurd (h.up (h.mini i x hx he)) c
theorem Mf.out (h : Mf D ed) (hi : D i = none) : ed i = none := by
  cases he : ed i with
  | none => rfl
  | some y => have := h.sub i y he; rw [hi] at this; simp at this
theorem Mf.uniq (h : Mf D ed) (h' : Mf D ed') (acy : ∀ i x, ed i = some x → ¬ Cn (fun k => k ≠ i) ed x.u x.v) (acy' : ∀ i x, ed' i = some x → ¬ Cn (fun k => k ≠ i) ed' x.u x.v) : ed = ed' := by
  funext i
  cases hx : D i with
  | none => rw [h.out hx, h'.out hx]
  | some x =>
    by_cases c : Cn (fun k => lgt D k i) D x.u x.v
    · have a : ed i ≠ some x := fun e => (h.canon acy hx).1 e c
      have b : ed' i ≠ some x := fun e => (h'.canon acy' hx).1 e c
      have a2 : ed i = none := by
        cases he : ed i with
        | none => rfl
        | some y => have := h.sub i y he; rw [hx] at this; rw [this] at a; exact absurd he a
      have b2 : ed' i = none := by
        cases he : ed' i with
        | none => rfl
        | some y => have := h'.sub i y he; rw [hx] at this; rw [this] at b; exact absurd he b
      rw [a2, b2]
    · rw [(h.canon acy hx).2 c, (h'.canon acy' hx).2 c]
theorem upd_le (D : Nat → Option Ed) {i : Nat} (x : Ed) (hi : D i = none) : ∀ k y, D k = some y → upd D i (some x) k = some y := fun k y hk => by
  rw [upd_other _ _ (fun e => by rw [e, hi] at hk; simp at hk)]; exact hk
/-- An edge that closes no ring comes. -/
theorem Mf.span (h : Mf D ed) {i : Nat} (x : Ed) (hi : D i = none) : Mf (upd D i (some x)) (upd ed i (some x)) := by
  have le := upd_le D x hi
  have le2 := upd_le ed x (h.out hi)
  refine ⟨fun k y hk => ?_, fun k y hk hn => ?_⟩
  · by_cases e : k = i
    · subst e; rw [upd_same] at hk ⊢; exact hk
    · rw [upd_other _ _ e] at hk ⊢; exact h.sub k y hk
  · by_cases e : k = i
    · subst e; rw [upd_same] at hn; simp at hn
    · rw [upd_other _ _ e] at hk hn
      exact (h.mini k y hk hn).mono fun j z hz hj => ⟨le2 j z hz, hj.mono le⟩
/-- The heaviest edge of a ring comes. -/
theorem Mf.over (h : Mf D ed) {i : Nat} (x : Ed) (hi : D i = none) (c : Cn (fun k => lgt (upd D i (some x)) k i) ed x.u x.v) : Mf (upd D i (some x)) ed := by
  have le := upd_le D x hi
  refine ⟨fun k y hk => le k y (h.sub k y hk), fun k y hk hn => ?_⟩
  by_cases e : k = i
  · subst e
    rw [upd_same] at hk
    injection hk with hk
    subst hk
    exact c
  · rw [upd_other _ _ e] at hk
    exact (h.mini k y hk hn).mono fun j z hz hj => ⟨hz, hj.mono le⟩
/-- An edge comes, and the heaviest one of its ring goes. -/
theorem Mf.swap (h : Mf D ed) {i t : Nat} (x y : Ed) (hi : D i = none) (ht : ed t = some y) (c : Cn (fun k => k = t ∨ lgt D k t) ed x.u x.v) (nc : ¬ Cn (fun k => k ≠ t) ed x.u x.v) (hl : lgt (upd D i (some x)) i t) :
    Mf (upd D i (some x)) (upd (upd ed t none) i (some x)) := by
  have le := upd_le D x hi
  have hDt := h.sub t y ht
  have ne : t ≠ i := fun e => by rw [e, hi] at hDt; simp at hDt
  have hei := h.out hi
  have keep : ∀ k z, ed k = some z → k ≠ t → upd (upd ed t none) i (some x) k = some z := fun k z hk e => by
    rw [upd_other _ _ (fun e => by rw [e, hei] at hk; simp at hk), upd_other _ _ e]; exact hk
  have new : upd (upd ed t none) i (some x) i = some x := upd_same _ _ _
  have ring : Cn (fun k => lgt (upd D i (some x)) k t) (upd (upd ed t none) i (some x)) y.u y.v := by
    have down : ∀ {a b}, Cn (fun k => (k = t ∨ lgt D k t) ∧ k ≠ t) ed a b → Cn (fun k => lgt (upd D i (some x)) k t) (upd (upd ed t none) i (some x)) a b := fun q =>
      q.mono fun k z hz hk => ⟨keep k z hz hk.2, (hk.1.resolve_left hk.2).mono le⟩
    have ex : Cn (fun k => lgt (upd D i (some x)) k t) (upd (upd ed t none) i (some x)) x.u x.v := Cn.edge new hl
    rcases c.one ht with q | ⟨q, r⟩ | ⟨q, r⟩
    · exact absurd (q.mono fun k z hz hk => ⟨hz, hk.2⟩) nc
    · exact ((down q).symm.trans ex).trans (down r).symm
    · exact ((down r).trans ex.symm).trans (down q)
  refine ⟨fun k z hk => ?_, fun k z hk hn => ?_⟩
  · by_cases e : k = i
    · subst e; rw [upd_same] at hk ⊢; exact hk
    · rw [upd_other _ _ e] at hk ⊢
      by_cases e2 : k = t
      · subst e2; rw [upd_same] at hk; simp at hk
      · rw [upd_other _ _ e2] at hk; exact h.sub k z hk
  · by_cases e : k = i
    · subst e; rw [upd_same] at hn; simp at hn
    · rw [upd_other _ _ e] at hk hn
      by_cases e2 : k = t
      · subst e2
        rw [hDt] at hk
        injection hk with hk
        subst hk
        exact ring
      · rw [upd_other _ _ e2] at hn
        refine (h.mini k z hk hn).sub fun j s hs hj => ?_
        by_cases e3 : j = t
        · subst e3
          rw [ht] at hs
          injection hs with hs
          subst hs
          exact ring.mono fun m r hr hm => ⟨hr, hm.trans (hj.mono le)⟩
        · exact Cn.edge (keep j s hs e3) (hj.mono le)
/-- The bottleneck of two vertices. -/
def IsBn (D : Nat → Option Ed) (u v t : Nat) : Prop := Cn (fun k => k = t ∨ lgt D k t) D u v ∧ ¬ Cn (fun k => lgt D k t) D u v
theorem IsBn.uniq {u v t s : Nat} {x y : Ed} (h : IsBn D u v t) (g : IsBn D u v s) (ht : D t = some x) (hs : D s = some y) : t = s := by
  by_cases e : t = s
  · exact e
  · rcases lgt.total ht hs e with q | q
    · exact absurd (h.1.mono fun k z hz hk => ⟨hz, hk.elim (fun e => e ▸ q) (fun l => l.trans q)⟩) g.2
    · exact absurd (g.1.mono fun k z hz hk => ⟨hz, hk.elim (fun e => e ▸ q) (fun l => l.trans q)⟩) h.2
theorem Mf.bn (h : Mf D ed) {u v t : Nat} (c : Cn (fun k => k = t ∨ lgt D k t) ed u v) (nc : ¬ Cn (fun k => k ≠ t) ed u v) : IsBn D u v t :=
  ⟨h.up c, fun q => nc ((h.down (fun a b p r => r.trans p) q).mono fun k z hz hk => ⟨hz, hk.ne⟩)⟩
end

/-- The heaviest edge of a way, by IDs. -/
theorem top_cn {n : Nat} {D ed : Nat → Option Ed} {R : Nat → List Nat} (h : Mf D ed) (A0 : Alt n ed R) (ok : EdOk n ed) (hT : Rt (liveN n ed) R) {u v t : Nat} (hu : u < n) (hv : v < n) (hd : (R (2 * u + 1)).head? = (R (2 * v + 1)).head?) (ht : TopE (edE ed) (way R u v) t) (t0 : t ≠ 0) :
    ∃ i y, t = 2 * i + 2 ∧ ed i = some y ∧ edE ed t = y ∧ Cn (fun k => k = i ∨ lgt D k i) ed u v ∧ ¬ Cn (fun k => k ≠ i) ed u v := by
  rcases ht with ⟨q, _⟩ | ⟨_, m1, m2, m3⟩
  · exact absurd q t0
  · have lt : liveN n ed t := (hT.turn (liveN_v (ed := ed) hu)).mem _ (liveN_v hv) t (by rw [← way_turn hd]; exact m1)
    rcases live_cases lt with ⟨i, y, rfl, hy⟩ | ⟨z, rfl, _⟩
    · refine ⟨i, y, rfl, hy, by rw [edE_e, hy]; rfl, (way_joins A0 ok hT hu hv hd).mono fun k x hx hk => ⟨hx, ?_⟩, way_needs A0 ok hT hu hv hd m1⟩
      rcases m3 _ hk (by omega) with e | e
      · exact .inl (by omega)
      · unfold lighter at e
        rw [edE_e, edE_e, hx, hy] at e
        exact .inr ⟨x, y, h.sub _ _ hx, h.sub _ _ hy, by simp only [Option.getD_some] at e; omega⟩
    · omega

end Go.Proofs.Ytffmlffhiimmdaa
namespace Go.Proofs.Ytffmlffhiimmdaa
open Go.ChangeShapes Go.WideShapes Go.ChangeAt Go.RowKit Go.Maps
set_option linter.unusedVariables false

/-- How an element reads. -/
def msList : List Value → Option (DataW Unit × List MemPlace)
  | [.int .i64 a, .int .i64 b, .int .i64 c, .int .i64 d, .bool s] => some (.agg [.lit (.int .i64 a), .lit (.int .i64 b), .lit (.int .i64 c), .lit (.int .i64 d), .lit (.bool s)], [])
  | _ => none
def msElem (v : Value) : Option (DataW Unit × List MemPlace) :=
  match v with
  | .agg cs => msList cs.toList
  | _ => none
def msD (a b c d : Int) (s : Bool) : DataW Unit := .agg [.lit (.int .i64 a), .lit (.int .i64 b), .lit (.int .i64 c), .lit (.int .i64 d), .lit (.bool s)]
theorem msElem_mk (a b c d : Int) (s : Bool) : msElem (.agg #[.int .i64 a, .int .i64 b, .int .i64 c, .int .i64 d, .bool s]) = some (msD a b c d s, []) := rfl
theorem msElem_form {v : Value} {y : DataW Unit × List MemPlace} (h : msElem v = some y) : ∃ a b c d s, v = .agg #[.int .i64 a, .int .i64 b, .int .i64 c, .int .i64 d, .bool s] ∧ y = (msD a b c d s, []) := by
  unfold msElem at h
  split at h
  · rename_i cs
    unfold msList at h
    split at h
    · rename_i a b c d s e
      simp at h
      refine ⟨a, b, c, d, s, ?_, h.symm⟩
      congr 1
      exact Array.toList_inj.1 e
    · cases h
  · cases h
theorem msElem_inv {v : Value} {a b c d : Int} {s : Bool} {ps : List MemPlace} (h : msElem v = some (msD a b c d s, ps)) : v = .agg #[.int .i64 a, .int .i64 b, .int .i64 c, .int .i64 d, .bool s] := by
  obtain ⟨a', b', c', d', s', rfl, e⟩ := msElem_form h
  simp only [msD, Prod.mk.injEq, DataW.agg.injEq, List.cons.injEq, DataW.lit.injEq, Lit.int.injEq, Lit.bool.injEq, true_and, and_true] at e
  obtain ⟨⟨rfl, rfl, rfl, rfl, rfl⟩, _⟩ := e
  rfl
theorem zeroMs (w : World) : (zeroValue 73).run Try.prog w = .ok (.agg #[.int .i64 0, .int .i64 0, .int .i64 0, .int .i64 0, .bool false]) w := by kernel_rfl
/-- Block b, under label i, is a map of m entries from IDs to edges, each with a mark. -/
def MsM (w : World) (o : Nat → Nat) (i b m : Nat) (f : Nat → Option (Ed × Bool)) : Prop :=
  ∃ D : DataW Unit, w.ownsMap Try.prog 3 msElem b m D ∧ Maps.size D = m ∧ o b = i ∧
    (∀ k x s, f k = some (x, s) → Maps.has D (.int .i64 (k : Nat)) = true ∧ D.atKey (.int .i64 (k : Nat)) (msD 0 0 0 0 false) = msD (k : Nat) (x.u : Nat) (x.v : Nat) x.w s) ∧
    (∀ k : Int, Maps.has D (.int .i64 k) = true → ∃ j x s, k = (j : Nat) ∧ f j = some (x, s))
theorem MsM.step {I : Nat → Prop} {w w' : World} {o o' : Nat → Nat} {i b m : Nat} {f : Nat → Option (Ed × Bool)} (h : MsM w o i b m f) (s : Step I w o w' o') (hi : ¬ I i) : MsM w' o' i b m f := by
  obtain ⟨D, h1, h2, h3, h4⟩ := h
  exact ⟨D, own_step h1 s (by rw [h3]; exact hi), h2, (s.lab b h1.lt).trans h3, h4⟩
theorem MsM.made (w : World) (o : Nat → Nat) (i : Nat) : MsM (w.alloc (.map #[] 0)) (newLab w o i) i w.heap.size 0 (fun _ => none) :=
  ⟨.map [], World.ownsMap_made _ _ _ _, rfl, newLab_new (Nat.le_refl _), fun k x s h => by simp at h, fun k h => by simp [Maps.has] at h⟩
theorem MsM.gone {w : World} {o : Nat → Nat} {i b m : Nat} {f : Nat → Option (Ed × Bool)} (h : MsM w o i b m f) {D : DataW Unit} (h5 : ∀ k : Int, Maps.has D (.int .i64 k) = true → ∃ j x s, k = (j : Nat) ∧ f j = some (x, s)) {k : Int} (hn : ∀ j : Nat, k = (j : Nat) → f j = none) : Maps.has D (.int .i64 k) = false := by
  cases hh : Maps.has D (.int .i64 k) with
  | false => rfl
  | true =>
    obtain ⟨j, x, s, e, hf⟩ := h5 k hh
    rw [hn j e] at hf
    simp at hf
/-- 'x, is := m[k]' where there is one. -/
theorem MsM.look {w : World} {o : Nat → Nat} {i b m : Nat} {f : Nat → Option (Ed × Bool)} (h : MsM w o i b m f) {k : Nat} (hk : In64 (k : Nat)) {x : Ed} {s : Bool} (hf : f k = some (x, s)) :
    (Instr.lookup 66 (.map (some b)) (.int .i64 (k : Nat)) true).run Try.prog w = .ok (.tuple #[.agg #[.int .i64 (k : Nat), .int .i64 (x.u : Nat), .int .i64 (x.v : Nat), .int .i64 x.w, .bool s], .bool true]) w := by
  obtain ⟨D, h1, h2, h3, h4, h5⟩ := h
  obtain ⟨c, ps, hr, hc⟩ := h1.look_ok intLaw Try.underlying66 (zeroMs w) (msElem_mk 0 0 0 0 false) (keyOf_int_mk Try.underlying3 hk.wf)
  obtain ⟨q1, q2⟩ := h4 k x s hf
  rw [q2] at hc
  rw [hr, q1, msElem_inv hc]
/-- and where there is none. -/
theorem MsM.miss {w : World} {o : Nat → Nat} {i b m : Nat} {f : Nat → Option (Ed × Bool)} (h : MsM w o i b m f) {k : Int} (hk : In64 k) (hn : ∀ j : Nat, k = (j : Nat) → f j = none) :
    ∃ a1 a2 a3 a4 s, (Instr.lookup 66 (.map (some b)) (.int .i64 k) true).run Try.prog w = .ok (.tuple #[.agg #[.int .i64 a1, .int .i64 a2, .int .i64 a3, .int .i64 a4, .bool s], .bool false]) w := by
  have h' := h
  obtain ⟨D, h1, h2, h3, h4, h5⟩ := h
  obtain ⟨c, ps, hr, hc⟩ := h1.look_ok intLaw Try.underlying66 (zeroMs w) (msElem_mk 0 0 0 0 false) (keyOf_int_mk Try.underlying3 hk.wf)
  obtain ⟨a1, a2, a3, a4, s, rfl, _⟩ := msElem_form hc
  rw [h'.gone h5 hn] at hr
  exact ⟨a1, a2, a3, a4, s, hr⟩
/-- An edge is laid, new or in place of the old one. -/
theorem MsM.put {w : World} {o : Nat → Nat} {i b m : Nat} {f : Nat → Option (Ed × Bool)} (h : MsM w o i b m f) (k : Nat) (x : Ed) (s : Bool) (hk : In64 (k : Nat)) (hm : m ≤ 100000) :
    ∃ w', (Instr.mapUpdate 66 (.map (some b)) (.int .i64 (k : Nat)) (.agg #[.int .i64 (k : Nat), .int .i64 (x.u : Nat), .int .i64 (x.v : Nat), .int .i64 x.w, .bool s])).run Try.prog w = .ok () w' ∧ MsM w' o i b (if (f k).isSome = true then m else m + 1) (upd f k (some (x, s))) ∧ Step (fun x => x = i) w o w' o := by
  have h' := h
  obtain ⟨D, h1, h2, h3, h4, h5⟩ := h
  obtain ⟨w', hr, ho, ht⟩ := h1.store (val := .agg #[.int .i64 (k : Nat), .int .i64 (x.u : Nat), .int .i64 (x.v : Nat), .int .i64 x.w, .bool s]) (d := msD (k : Nat) (x.u : Nat) (x.v : Nat) x.w s) (ps := []) intLaw Try.underlying66 (by unfold maxLen; omega) (keyOf_int_mk Try.underlying3 hk.wf) rfl
  have hsz : Maps.size (D.put (.int .i64 (k : Nat)) (msD (k : Nat) (x.u : Nat) (x.v : Nat) x.w s)) = if (f k).isSome = true then m else m + 1 := by
    rw [size_put (h1.tidy intLaw), h2]
    cases hf : f k with
    | none => rw [h'.gone h5 (k := (k : Nat)) (fun j e => (show k = j by omega) ▸ hf)]; simp
    | some y => obtain ⟨y, t⟩ := y; rw [(h4 k y t hf).1]; simp
  have ho' := own_tight ho
  rw [hsz] at ho'
  refine ⟨w', hr, ⟨_, ho', hsz, h3, fun j y t hj => ?_, fun j hj => ?_⟩, turned_step ht h3⟩
  · by_cases e : j = k
    · subst e
      rw [upd_same] at hj
      simp only [Option.some.injEq, Prod.mk.injEq] at hj
      obtain ⟨rfl, rfl⟩ := hj
      rw [has_put_same h1.isMap (intKey _), atKey_put_same h1.isMap (intKey _)]
      exact ⟨rfl, rfl⟩
    · have hne : Lit.int .i64 (j : Nat) ≠ Lit.int .i64 (k : Nat) := fun h => e (by simp at h; omega)
      rw [upd_other _ _ e] at hj
      rw [has_put_other hne, atKey_put_other hne]
      exact h4 j y t hj
  · by_cases e : j = (k : Nat)
    · exact ⟨k, x, s, e, upd_same _ _ _⟩
    · have hne : Lit.int .i64 j ≠ Lit.int .i64 (k : Nat) := fun h => e (by simp at h; exact h)
      rw [has_put_other hne] at hj
      obtain ⟨j', y, t, rfl, hf⟩ := h5 j hj
      exact ⟨j', y, t, rfl, by rw [upd_other _ _ (by omega)]; exact hf⟩
/-- An edge goes. -/
theorem MsM.del {w : World} {o : Nat → Nat} {i b m : Nat} {f : Nat → Option (Ed × Bool)} (h : MsM w o i b m f) (k : Nat) (hk : In64 (k : Nat)) (hf : (f k).isSome = true) (ty : TypeId) :
    ∃ w', (Builtin.delete_ #[66, 3] ty #[.map (some b), .int .i64 (k : Nat)]).run Try.prog w = .ok (.tuple #[]) w' ∧ MsM w' o i b (m - 1) (upd f k none) ∧ Step (fun x => x = i) w o w' o := by
  obtain ⟨D, h1, h2, h3, h4, h5⟩ := h
  obtain ⟨w', hr, ho, ht⟩ := h1.drop intLaw Try.underlying66 (keyOf_int_mk Try.underlying3 hk.wf) ty
  obtain ⟨y, hy⟩ := Option.isSome_iff_exists.1 hf
  obtain ⟨y, t⟩ := y
  have hsz := size_del (k := .int .i64 (k : Nat)) (h1.tidy intLaw)
  rw [(h4 k y t hy).1, h2] at hsz
  simp only [if_true] at hsz
  have hsz' : Maps.size (D.del (.int .i64 (k : Nat))) = m - 1 := by omega
  have ho' := own_tight ho
  rw [hsz'] at ho'
  refine ⟨w', hr, ⟨_, ho', hsz', h3, fun j z q hj => ?_, fun j hj => ?_⟩, turned_step ht h3⟩
  · by_cases e : j = k
    · subst e; rw [upd_same] at hj; simp at hj
    · have hne : Lit.int .i64 (j : Nat) ≠ Lit.int .i64 (k : Nat) := fun h => e (by simp at h; omega)
      rw [upd_other _ _ e] at hj
      rw [has_del_other hne, atKey_del_other hne]
      exact h4 j z q hj
  · by_cases e : j = (k : Nat)
    · subst e; rw [has_del_same] at hj; simp at hj
    · have hne : Lit.int .i64 j ≠ Lit.int .i64 (k : Nat) := fun h => e (by simp at h; exact h)
      rw [has_del_other hne] at hj
      obtain ⟨j', z, q, rfl, hf'⟩ := h5 j hj
      exact ⟨j', z, q, rfl, by rw [upd_other _ _ (by omega)]; exact hf'⟩

end Go.Proofs.Ytffmlffhiimmdaa
