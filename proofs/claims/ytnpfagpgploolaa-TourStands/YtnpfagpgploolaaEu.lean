/- Tours as lists of steps (a stop is a step from a vertex to itself): what is kept when they are turned, linked, cut. No program. -/
import Derived.Test.YtnpfagpgploolaaSeqs
namespace Go.Proofs.Ytnpfagpgploolaa
set_option linter.unusedVariables false

theorem ite_of {α : Type} {p q : Prop} [Decidable p] [Decidable q] (h : p ↔ q) (x y : α) : (if p then x else y) = if q then x else y := by
  by_cases hp : p
  · rw [if_pos hp, if_pos (h.1 hp)]
  · rw [if_neg hp, if_neg (fun hq => hp (h.2 hq))]
/-- What stands ahead of a step, behind it. -/
def ahead (X : List (Nat × Nat)) (s : Nat × Nat) : List (Nat × Nat) := X.takeWhile (fun t => decide (t ≠ s))
def behind (X : List (Nat × Nat)) (s : Nat × Nat) : List (Nat × Nat) := (X.dropWhile (fun t => decide (t ≠ s))).tail
theorem ahead_eq {A B : List (Nat × Nat)} {s : Nat × Nat} (h : s ∉ A) : ahead (A ++ s :: B) s = A := by
  induction A with
  | nil => simp [ahead]
  | cons t A ih =>
    simp only [List.mem_cons, not_or] at h
    unfold ahead at ih ⊢
    rw [List.cons_append, List.takeWhile_cons_of_pos (by simp [Ne.symm h.1]), ih h.2]
theorem behind_eq {A B : List (Nat × Nat)} {s : Nat × Nat} (h : s ∉ A) : behind (A ++ s :: B) s = B := by
  induction A with
  | nil => simp [behind]
  | cons t A ih =>
    simp only [List.mem_cons, not_or] at h
    unfold behind at ih ⊢
    rw [List.cons_append, List.dropWhile_cons_of_pos (by simp [Ne.symm h.1]), ih h.2]
theorem split_at {X : List (Nat × Nat)} {s : Nat × Nat} (h : s ∈ X) : X = ahead X s ++ s :: behind X s ∧ s ∉ ahead X s := by
  induction X with
  | nil => simp at h
  | cons t X ih =>
    by_cases e : t = s
    · subst e; simp [ahead, behind]
    · obtain ⟨h1, h2⟩ := ih (by simpa [Ne.symm e] using h)
      have e1 : ahead (t :: X) s = t :: ahead X s := by unfold ahead; rw [List.takeWhile_cons_of_pos (by simp [e])]
      have e2 : behind (t :: X) s = behind X s := by unfold behind; rw [List.dropWhile_cons_of_pos (by simp [e])]
      rw [e1, e2]
      refine ⟨by rw [List.cons_append, ← h1], by simp [Ne.symm e, h2]⟩
/-- Turned to begin at a step. -/
def turnX (X : List (Nat × Nat)) (s : Nat × Nat) : List (Nat × Nat) := s :: behind X s ++ ahead X s
theorem mem_turnX {X : List (Nat × Nat)} {s t : Nat × Nat} (h : s ∈ X) : t ∈ turnX X s ↔ t ∈ X := by
  have hx : t ∈ X ↔ t ∈ ahead X s ∨ t = s ∨ t ∈ behind X s := by
    conv => lhs; rw [(split_at h).1]
    simp only [List.mem_append, List.mem_cons]
  rw [hx]
  unfold turnX
  simp only [List.mem_append, List.mem_cons]
  constructor
  · rintro ((h | h) | h) <;> simp [h]
  · rintro (h | h | h) <;> simp [h]
theorem nodup_turnX {X : List (Nat × Nat)} {s : Nat × Nat} (h : s ∈ X) (hn : X.Nodup) : (turnX X s).Nodup := by
  have e := (split_at h).1
  unfold turnX
  rw [e] at hn
  exact (List.perm_append_comm.nodup_iff).1 hn
/-- Linked: the one's tour, and in it, behind the stop at u, the other one's. -/
def linkX (X Z : List (Nat × Nat)) (u v : Nat) : List (Nat × Nat) := ahead X (u, u) ++ (u, u) :: (u, v) :: (turnX Z (v, v) ++ (v, u) :: behind X (u, u))
theorem mem_linkX {X Z : List (Nat × Nat)} {u v : Nat} (hu : (u, u) ∈ X) (hv : (v, v) ∈ Z) {t : Nat × Nat} : t ∈ linkX X Z u v ↔ t ∈ X ∨ t ∈ Z ∨ t = (u, v) ∨ t = (v, u) := by
  have e := (split_at hu).1
  have hx : t ∈ X ↔ t ∈ ahead X (u, u) ∨ t = (u, u) ∨ t ∈ behind X (u, u) := by
    conv => lhs; rw [e]
    simp only [List.mem_append, List.mem_cons]
  unfold linkX
  simp only [List.mem_append, List.mem_cons, mem_turnX hv, hx]
  constructor
  · rintro (h | h | h | h | h | h) <;> simp [h]
  · rintro ((h | h | h) | h | h | h) <;> simp [h]

/-- A walk from x to y. -/
def Ch : Nat → List (Nat × Nat) → Nat → Prop
  | x, [], y => x = y
  | x, t :: X, y => t.1 = x ∧ Ch t.2 X y
theorem Ch_append {A B : List (Nat × Nat)} {x z : Nat} : Ch x (A ++ B) z ↔ ∃ y, Ch x A y ∧ Ch y B z := by
  induction A generalizing x with
  | nil => simp [Ch]
  | cons t A ih =>
    simp only [List.cons_append, Ch, ih]
    constructor
    · rintro ⟨h, y, h1, h2⟩; exact ⟨y, ⟨h, h1⟩, h2⟩
    · rintro ⟨y, ⟨h, h1⟩, h2⟩; exact ⟨h, y, h1, h2⟩
/-- A closed walk. -/
def Cw (X : List (Nat × Nat)) : Prop := ∃ x, Ch x X x
theorem Cw.swap {A B : List (Nat × Nat)} (h : Cw (A ++ B)) : Cw (B ++ A) := by
  obtain ⟨x, h⟩ := h
  obtain ⟨y, h1, h2⟩ := Ch_append.1 h
  exact ⟨y, Ch_append.2 ⟨x, h2, h1⟩⟩
/-- Who goes along no step out of P stays in P. -/
theorem Ch.stay {P : Nat → Prop} {X : List (Nat × Nat)} : ∀ {x y : Nat}, Ch x X y → P x → (∀ t ∈ X, P t.1 → P t.2) → ∀ t ∈ X, P t.1 ∧ P t.2 := by
  induction X with
  | nil => intro x y _ _ _ t ht; simp at ht
  | cons s X ih =>
    intro x y h hx hP t ht
    obtain ⟨rfl, h2⟩ := h
    have h3 := hP s (by simp) hx
    rcases List.mem_cons.1 ht with rfl | ht
    · exact ⟨hx, h3⟩
    · exact ih h2 h3 (fun t ht => hP t (by simp [ht])) t ht

/-- One list for all whose stops stand in it. -/
def setY (Y : Nat → List (Nat × Nat)) (Z : List (Nat × Nat)) : Nat → List (Nat × Nat) := fun w => if (w, w) ∈ Z then Z else Y w
theorem setY_in {Y : Nat → List (Nat × Nat)} {Z : List (Nat × Nat)} {w : Nat} (h : (w, w) ∈ Z) : setY Y Z w = Z := by simp [setY, h]
theorem setY_out {Y : Nat → List (Nat × Nat)} {Z : List (Nat × Nat)} {w : Nat} (h : (w, w) ∉ Z) : setY Y Z w = Y w := by simp [setY, h]

/-- Tours of n vertices, with so many steps. -/
structure Eu (n ms : Nat) (Y : Nat → List (Nat × Nat)) : Prop where
  self : ∀ v, v < n → (v, v) ∈ Y v
  one : ∀ v, v < n → ∀ s ∈ Y v, s.1 < n ∧ s.2 < n ∧ Y s.1 = Y v ∧ Y s.2 = Y v
  nodup : ∀ v, v < n → (Y v).Nodup
  back : ∀ v, v < n → ∀ s ∈ Y v, (s.2, s.1) ∈ Y v
  walk : ∀ v, v < n → Cw (Y v)
  bridge : ∀ v, v < n → ∀ s ∈ Y v, s.1 ≠ s.2 → ∃ P : Nat → Prop, P s.2 ∧ ¬ P s.1 ∧ ∀ t ∈ Y v, t ≠ s → t ≠ (s.2, s.1) → (P t.1 ↔ P t.2)
  reps : ∃ R : List Nat, (∀ r ∈ R, r < n) ∧ (R.map Y).Nodup ∧ (∀ v, v < n → ∃ r ∈ R, Y r = Y v) ∧ ms + 2 * R.length = 2 * n
theorem Eu.iff {n ms : Nat} {Y : Nat → List (Nat × Nat)} (h : Eu n ms Y) {u v : Nat} (hu : u < n) (hv : v < n) : (u, u) ∈ Y v ↔ Y u = Y v :=
  ⟨fun hm => (h.one v hv _ hm).2.2.1, fun e => by rw [← e]; exact h.self u hu⟩
theorem Eu.iff2 {n ms : Nat} {Y : Nat → List (Nat × Nat)} (h : Eu n ms Y) {u v : Nat} (hv : v < n) : (u, u) ∈ Y v ↔ u < n ∧ Y u = Y v :=
  ⟨fun hm => ⟨(h.one v hv _ hm).1, (h.one v hv _ hm).2.2.1⟩, fun e => by rw [← e.2]; exact h.self u e.1⟩
theorem nodup_map_iff {R : List Nat} {Y : Nat → List (Nat × Nat)} : (R.map Y).Nodup ↔ R.Pairwise (fun a b => Y a ≠ Y b) := by
  unfold List.Nodup; rw [List.pairwise_map]
theorem pw_inj {R : List Nat} {Y : Nat → List (Nat × Nat)} (h : (R.map Y).Nodup) {a b : Nat} (ha : a ∈ R) (hb : b ∈ R) (e : Y a = Y b) : a = b := by
  induction R with
  | nil => simp at ha
  | cons c R ih =>
    rw [List.map_cons, List.nodup_cons] at h
    rcases List.mem_cons.1 ha with ea | ha' <;> rcases List.mem_cons.1 hb with eb | hb'
    · rw [ea, eb]
    · exact absurd (List.mem_map.2 ⟨b, hb', by rw [← e, ea]⟩) h.1
    · exact absurd (List.mem_map.2 ⟨a, ha', by rw [e, eb]⟩) h.1
    · exact ih h.2 ha' hb'
theorem map_nodup_of {R : List Nat} {Y Y' : Nat → List (Nat × Nat)} (h : (R.map Y).Nodup) (hi : ∀ a ∈ R, ∀ b ∈ R, Y a ≠ Y b → Y' a ≠ Y' b) : (R.map Y').Nodup := by
  rw [nodup_map_iff] at h ⊢
  exact List.Pairwise.imp_of_mem (fun ha hb hne => hi _ ha _ hb hne) h
/-- Where two trees are, there is room for an edge's steps. -/
theorem Eu.room {n ms : Nat} {Y : Nat → List (Nat × Nat)} (h : Eu n ms Y) {u v : Nat} (hu : u < n) (hv : v < n) (hne : Y u ≠ Y v) : ms + 4 ≤ 2 * n := by
  obtain ⟨R, h1, h2, h3, h4⟩ := h.reps
  obtain ⟨a, ha, ea⟩ := h3 u hu
  obtain ⟨b, hb, eb⟩ := h3 v hv
  have hab : a ≠ b := fun e => hne (by rw [← ea, ← eb, e])
  have : 2 ≤ R.length := by
    match R, ha, hb with
    | [], ha, _ => simp at ha
    | [c], ha, hb => simp at ha hb; omega
    | _ :: _ :: _, _, _ => simp
  omega
theorem Eu.new (n : Nat) : Eu n 0 (fun v => [(v, v)]) := by
  refine ⟨fun v _ => by simp, fun v hv s hs => ?_, fun v _ => by simp, fun v _ s hs => ?_, fun v _ => ⟨v, rfl, rfl⟩, fun v _ s hs hne => ?_, List.range n, fun r hr => by simpa using hr, ?_, fun v hv => ⟨v, by simpa using hv, rfl⟩, by simp⟩
  · simp at hs; subst hs; exact ⟨hv, hv, rfl, rfl⟩
  · simp at hs; subst hs; simp
  · simp at hs; subst hs; simp at hne
  · rw [nodup_map_iff]
    exact List.nodup_range.imp (fun hne => by simpa using hne)

/-- Turned. -/
theorem Eu.turn_at {n ms : Nat} {Y : Nat → List (Nat × Nat)} (h : Eu n ms Y) {v : Nat} (hv : v < n) (w : Nat) : setY Y (turnX (Y v) (v, v)) w = if w < n ∧ Y w = Y v then turnX (Y v) (v, v) else Y w := by
  unfold setY
  exact ite_of ((mem_turnX (h.self v hv)).trans (h.iff2 hv)) _ _
theorem Eu.turn {n ms : Nat} {Y : Nat → List (Nat × Nat)} (h : Eu n ms Y) {v : Nat} (hv : v < n) : Eu n ms (setY Y (turnX (Y v) (v, v))) := by
  have hm : ∀ t, t ∈ turnX (Y v) (v, v) ↔ t ∈ Y v := fun t => mem_turnX (h.self v hv)
  have hY := fun w => h.turn_at hv w
  have hyes : ∀ w, w < n → Y w = Y v → setY Y (turnX (Y v) (v, v)) w = turnX (Y v) (v, v) := fun w hw e => by rw [hY, if_pos ⟨hw, e⟩]
  have hno : ∀ w, Y w ≠ Y v → setY Y (turnX (Y v) (v, v)) w = Y w := fun w e => by rw [hY, if_neg (fun x => e x.2)]
  -- all that is told by membership alone
  have hmem : ∀ w, w < n → ∀ t, t ∈ setY Y (turnX (Y v) (v, v)) w ↔ t ∈ Y w := fun w hw t => by
    by_cases e : Y w = Y v
    · rw [hyes w hw e, hm, e]
    · rw [hno w e]
  have hsame : ∀ a b, a < n → b < n → Y a = Y b → setY Y (turnX (Y v) (v, v)) a = setY Y (turnX (Y v) (v, v)) b := fun a b ha hb e => by
    rw [hY, hY, e]; simp [ha, hb]
  refine ⟨fun w hw => (hmem w hw _).2 (h.self w hw), fun w hw s hs => ?_, fun w hw => ?_, fun w hw s hs => (hmem w hw _).2 (h.back w hw s ((hmem w hw _).1 hs)), fun w hw => ?_, fun w hw s hs hne => ?_, ?_⟩
  · obtain ⟨a, b, c, d⟩ := h.one w hw s ((hmem w hw _).1 hs)
    exact ⟨a, b, hsame _ _ a hw c, hsame _ _ b hw d⟩
  · by_cases e : Y w = Y v
    · rw [hyes w hw e]; exact nodup_turnX (h.self v hv) (h.nodup v hv)
    · rw [hno w e]; exact h.nodup w hw
  · by_cases e : Y w = Y v
    · rw [hyes w hw e]
      have := h.walk v hv
      rw [(split_at (h.self v hv)).1] at this
      exact this.swap
    · rw [hno w e]; exact h.walk w hw
  · obtain ⟨P, p1, p2, p3⟩ := h.bridge w hw s ((hmem w hw _).1 hs) hne
    exact ⟨P, p1, p2, fun t ht => p3 t ((hmem w hw _).1 ht)⟩
  · obtain ⟨R, h1, h2, h3, h4⟩ := h.reps
    refine ⟨R, h1, map_nodup_of h2 (fun a ha b hb hne e => ?_), fun w hw => ?_, h4⟩
    · have : (a, a) ∈ setY Y (turnX (Y v) (v, v)) b := by rw [← e]; exact (hmem a (h1 a ha) _).2 (h.self a (h1 a ha))
      exact hne ((h.iff (h1 a ha) (h1 b hb)).1 ((hmem b (h1 b hb) _).1 this))
    · obtain ⟨r, hr, e⟩ := h3 w hw
      exact ⟨r, hr, hsame _ _ (h1 r hr) hw e⟩

theorem filter_less {R : List Nat} {Y : Nat → List (Nat × Nat)} {X : List (Nat × Nat)} (h : (R.map Y).Nodup) (hx : ∃ r ∈ R, Y r = X) : (R.filter (fun r => decide (Y r ≠ X))).length + 1 = R.length := by
  induction R with
  | nil => simp at hx
  | cons a R ih =>
    rw [List.map_cons, List.nodup_cons] at h
    by_cases e : Y a = X
    · have : R.filter (fun r => decide (Y r ≠ X)) = R := by
        rw [List.filter_eq_self]
        intro r hr
        simp only [ne_eq, decide_eq_true_eq]
        intro e2
        exact h.1 (List.mem_map.2 ⟨r, hr, by rw [e2, e]⟩)
      rw [List.filter_cons_of_neg (by simp [e]), this]; simp
    · rw [List.filter_cons_of_pos (by simp [e])]
      have := ih h.2 (by obtain ⟨r, hr, er⟩ := hx; rcases List.mem_cons.1 hr with rfl | hr; exact absurd er e; exact ⟨r, hr, er⟩)
      simp only [List.length_cons]; omega

/-- Linked. -/
theorem Eu.link_at {n ms : Nat} {Y : Nat → List (Nat × Nat)} (h : Eu n ms Y) {u v : Nat} (hu : u < n) (hv : v < n) (huv : u ≠ v) (w : Nat) : setY Y (linkX (Y u) (Y v) u v) w = if w < n ∧ (Y w = Y u ∨ Y w = Y v) then linkX (Y u) (Y v) u v else Y w := by
  unfold setY
  have : (w, w) ∈ linkX (Y u) (Y v) u v ↔ (w < n ∧ (Y w = Y u ∨ Y w = Y v)) := by
    rw [mem_linkX (h.self u hu) (h.self v hv), h.iff2 hu, h.iff2 hv]
    simp only [Prod.mk.injEq]
    constructor
    · rintro (⟨a, b⟩ | ⟨a, b⟩ | ⟨a, b⟩ | ⟨a, b⟩)
      · exact ⟨a, .inl b⟩
      · exact ⟨a, .inr b⟩
      · omega
      · omega
    · rintro ⟨a, b | b⟩
      · exact .inl ⟨a, b⟩
      · exact .inr (.inl ⟨a, b⟩)
  exact ite_of this _ _
theorem Eu.link {n ms : Nat} {Y : Nat → List (Nat × Nat)} (h : Eu n ms Y) {u v : Nat} (hu : u < n) (hv : v < n) (hne : Y u ≠ Y v) : Eu n (ms + 2) (setY Y (linkX (Y u) (Y v) u v)) := by
  have huv : u ≠ v := fun e => hne (by rw [e])
  have hm : ∀ t, t ∈ linkX (Y u) (Y v) u v ↔ t ∈ Y u ∨ t ∈ Y v ∨ t = (u, v) ∨ t = (v, u) := fun t => mem_linkX (h.self u hu) (h.self v hv)
  have hY := fun w => h.link_at hu hv huv w
  obtain ⟨Z, hZ⟩ : ∃ Z, Z = linkX (Y u) (Y v) u v := ⟨_, rfl⟩
  have hZw : Cw Z ∧ Z.Nodup := by
    obtain ⟨eu, nu⟩ := split_at (h.self u hu)
    have wu := h.walk u hu
    have du := h.nodup u hu
    have wv := h.walk v hv
    have dv := nodup_turnX (h.self v hv) (h.nodup v hv)
    have apart : ∀ t, t ∈ Y u → t ∉ Y v := fun t h1 h2 => hne ((h.one u hu t h1).2.2.1.symm.trans (h.one v hv t h2).2.2.1)
    have nuv : (u, v) ∉ Y u ∧ (u, v) ∉ Y v ∧ (v, u) ∉ Y u ∧ (v, u) ∉ Y v := by
      refine ⟨fun x => ?_, fun x => ?_, fun x => ?_, fun x => ?_⟩
      · exact hne (h.one u hu _ x).2.2.2.symm
      · exact hne (h.one v hv _ x).2.2.1
      · exact hne (h.one u hu _ x).2.2.1.symm
      · exact hne (h.one v hv _ x).2.2.2
    have mt : ∀ t, t ∈ turnX (Y v) (v, v) ↔ t ∈ Y v := fun t => mem_turnX (h.self v hv)
    have wt : Ch v (turnX (Y v) (v, v)) v := by
      rw [(split_at (h.self v hv)).1] at wv
      obtain ⟨x, hx⟩ := wv.swap
      obtain ⟨y, h1, h2⟩ := Ch_append.1 hx
      obtain ⟨e1, h1'⟩ := h1
      subst e1
      exact hx
    rw [hZ]
    unfold linkX
    rw [eu] at wu du nuv apart
    generalize ahead (Y u) (u, u) = A at *
    generalize behind (Y u) (u, u) = B at *
    generalize turnX (Y v) (v, v) = T at *
    constructor
    · obtain ⟨x, hx⟩ := wu
      obtain ⟨y, h1, e1, h2⟩ := Ch_append.1 hx
      simp only at e1 h2
      subst e1
      exact ⟨x, Ch_append.2 ⟨_, h1, rfl, rfl, Ch_append.2 ⟨_, wt, rfl, h2⟩⟩⟩
    · have hpa : ∀ t ∈ A ++ (u, u) :: B, t ∉ T := fun t ht hT => apart t ht ((mt t).1 hT)
      have d1 : (T ++ (u, v) :: (v, u) :: (A ++ (u, u) :: B)).Nodup := by
        rw [List.nodup_append]
        refine ⟨dv, ?_, fun a ha b hb e => ?_⟩
        · rw [List.nodup_cons, List.nodup_cons]
          refine ⟨?_, nuv.2.2.1, du⟩
          rw [List.mem_cons, not_or]
          exact ⟨fun e => huv (by simpa using (Prod.mk.inj e).1), nuv.1⟩
        · subst e
          rcases List.mem_cons.1 hb with rfl | hb
          · exact nuv.2.1 ((mt _).1 ha)
          · rcases List.mem_cons.1 hb with rfl | hb
            · exact nuv.2.2.2 ((mt _).1 ha)
            · exact hpa a hb ha
      refine (List.Perm.nodup_iff ?_).1 d1
      rw [List.perm_iff_count]
      intro a
      simp only [List.count_append, List.count_cons]
      omega
  have hyes : ∀ w, w < n → (Y w = Y u ∨ Y w = Y v) → setY Y (linkX (Y u) (Y v) u v) w = Z := fun w hw e => by rw [hY, if_pos ⟨hw, e⟩, hZ]
  have hno : ∀ w, ¬ (Y w = Y u ∨ Y w = Y v) → setY Y (linkX (Y u) (Y v) u v) w = Y w := fun w e => by rw [hY, if_neg (fun x => e x.2)]
  rw [← hZ] at hm
  have hsame : ∀ a b, a < n → b < n → Y a = Y b → setY Y (linkX (Y u) (Y v) u v) a = setY Y (linkX (Y u) (Y v) u v) b := fun a b ha hb e => by
    rw [hY, hY, e]; simp [ha, hb]
  have hself : ∀ w, w < n → (w, w) ∈ setY Y (linkX (Y u) (Y v) u v) w := fun w hw => by
    by_cases e : Y w = Y u ∨ Y w = Y v
    · rw [hyes w hw e, hm]
      rcases e with e | e
      · exact .inl (by rw [← e]; exact h.self w hw)
      · exact .inr (.inl (by rw [← e]; exact h.self w hw))
    · rw [hno w e]; exact h.self w hw
  refine ⟨hself, fun w hw s hs => ?_, fun w hw => ?_, fun w hw s hs => ?_, fun w hw => ?_, fun w hw s hs hsne => ?_, ?_⟩
  · by_cases e : Y w = Y u ∨ Y w = Y v
    · rw [hyes w hw e, hm] at hs
      rw [hyes w hw e]
      rcases hs with hs | hs | hs | hs
      · obtain ⟨a, b, c, d⟩ := h.one u hu s hs
        exact ⟨a, b, hyes _ a (.inl c), hyes _ b (.inl d)⟩
      · obtain ⟨a, b, c, d⟩ := h.one v hv s hs
        exact ⟨a, b, hyes _ a (.inr c), hyes _ b (.inr d)⟩
      · subst hs; exact ⟨hu, hv, hyes _ hu (.inl rfl), hyes _ hv (.inr rfl)⟩
      · subst hs; exact ⟨hv, hu, hyes _ hv (.inr rfl), hyes _ hu (.inl rfl)⟩
    · rw [hno w e] at hs
      obtain ⟨a, b, c, d⟩ := h.one w hw s hs
      exact ⟨a, b, hsame _ _ a hw c, hsame _ _ b hw d⟩
  · by_cases e : Y w = Y u ∨ Y w = Y v
    · rw [hyes w hw e]; exact hZw.2
    · rw [hno w e]; exact h.nodup w hw
  · by_cases e : Y w = Y u ∨ Y w = Y v
    · rw [hyes w hw e, hm] at hs ⊢
      rcases hs with hs | hs | hs | hs
      · exact .inl (h.back u hu s hs)
      · exact .inr (.inl (h.back v hv s hs))
      · subst hs; exact .inr (.inr (.inr rfl))
      · subst hs; exact .inr (.inr (.inl rfl))
    · rw [hno w e] at hs ⊢; exact h.back w hw s hs
  · by_cases e : Y w = Y u ∨ Y w = Y v
    · rw [hyes w hw e]; exact hZw.1
    · rw [hno w e]; exact h.walk w hw
  · by_cases e : Y w = Y u ∨ Y w = Y v
    · rw [hyes w hw e, hm] at hs
      rw [hyes w hw e]
      rcases hs with hs | hs | hs | hs
      · obtain ⟨P, p1, p2, p3⟩ := h.bridge u hu s hs hsne
        obtain ⟨a, b, c, d⟩ := h.one u hu s hs
        refine ⟨fun w => if Y w = Y v then P u else P w, ?_, ?_, fun t ht n1 n2 => ?_⟩
        · simp only [d, if_neg hne]; exact p1
        · simp only [c, if_neg hne]; exact p2
        · rcases (hm t).1 ht with ht | ht | ht | ht
          · obtain ⟨_, _, c', d'⟩ := h.one u hu t ht
            simp only [c', d', if_neg hne]; exact p3 t ht n1 n2
          · obtain ⟨_, _, c', d'⟩ := h.one v hv t ht
            simp only [c', d', if_true]
          · subst ht; simp only [if_neg hne, if_true]
          · subst ht; simp only [if_neg hne, if_true]
      · obtain ⟨P, p1, p2, p3⟩ := h.bridge v hv s hs hsne
        obtain ⟨a, b, c, d⟩ := h.one v hv s hs
        refine ⟨fun w => if Y w = Y u then P v else P w, ?_, ?_, fun t ht n1 n2 => ?_⟩
        · simp only [d, if_neg (Ne.symm hne)]; exact p1
        · simp only [c, if_neg (Ne.symm hne)]; exact p2
        · rcases (hm t).1 ht with ht | ht | ht | ht
          · obtain ⟨_, _, c', d'⟩ := h.one u hu t ht
            simp only [c', d', if_true]
          · obtain ⟨_, _, c', d'⟩ := h.one v hv t ht
            simp only [c', d', if_neg (Ne.symm hne)]; exact p3 t ht n1 n2
          · subst ht; simp only [if_neg (Ne.symm hne), if_true]
          · subst ht; simp only [if_neg (Ne.symm hne), if_true]
      · subst hs
        refine ⟨fun w => Y w = Y v, rfl, hne, fun t ht n1 n2 => ?_⟩
        rcases (hm t).1 ht with ht | ht | ht | ht
        · obtain ⟨_, _, c', d'⟩ := h.one u hu t ht
          simp only [c', d']
        · obtain ⟨_, _, c', d'⟩ := h.one v hv t ht
          simp only [c', d']
        · exact absurd ht n1
        · exact absurd ht n2
      · subst hs
        refine ⟨fun w => Y w = Y u, rfl, Ne.symm hne, fun t ht n1 n2 => ?_⟩
        rcases (hm t).1 ht with ht | ht | ht | ht
        · obtain ⟨_, _, c', d'⟩ := h.one u hu t ht
          simp only [c', d']
        · obtain ⟨_, _, c', d'⟩ := h.one v hv t ht
          simp only [c', d']
        · exact absurd ht n2
        · exact absurd ht n1
    · rw [hno w e] at hs ⊢; exact h.bridge w hw s hs hsne
  · obtain ⟨R, h1, h2, h3, h4⟩ := h.reps
    have hfl := filter_less h2 (h3 v hv)
    refine ⟨R.filter (fun r => decide (Y r ≠ Y v)), fun r hr => h1 r (List.mem_filter.1 hr).1, ?_, fun w hw => ?_, by omega⟩
    · refine map_nodup_of (h2.sublist (List.filter_sublist.map Y)) (fun a ha b hb hn e => ?_)
      obtain ⟨ha1, ha2⟩ := List.mem_filter.1 ha
      obtain ⟨hb1, hb2⟩ := List.mem_filter.1 hb
      simp only [ne_eq, decide_eq_true_eq] at ha2 hb2
      by_cases ea : Y a = Y u
      · by_cases eb : Y b = Y u
        · exact hn (ea.trans eb.symm)
        · have hs := hself b (h1 b hb1)
          rw [← e, hyes a (h1 a ha1) (.inl ea), hm] at hs
          rcases hs with hs | hs | hs | hs
          · exact eb ((h.iff (h1 b hb1) hu).1 hs)
          · exact hb2 ((h.iff (h1 b hb1) hv).1 hs)
          · simp only [Prod.mk.injEq] at hs; omega
          · simp only [Prod.mk.injEq] at hs; omega
      · rw [hno a (fun x => x.elim ea ha2)] at e
        by_cases eb : Y b = Y u
        · rw [hyes b (h1 b hb1) (.inl eb)] at e
          have hs := h.self a (h1 a ha1)
          rw [e, hm] at hs
          rcases hs with hs | hs | hs | hs
          · exact ea ((h.iff (h1 a ha1) hu).1 hs)
          · exact ha2 ((h.iff (h1 a ha1) hv).1 hs)
          · simp only [Prod.mk.injEq] at hs; omega
          · simp only [Prod.mk.injEq] at hs; omega
        · rw [hno b (fun x => x.elim eb hb2)] at e
          exact hn e
    · obtain ⟨r, hr, er⟩ := h3 w hw
      by_cases e : Y w = Y v
      · obtain ⟨r2, hr2, er2⟩ := h3 u hu
        refine ⟨r2, List.mem_filter.2 ⟨hr2, by simp [er2, hne]⟩, ?_⟩
        rw [hyes _ (h1 r2 hr2) (.inl er2), hyes w hw (.inr e)]
      · exact ⟨r, List.mem_filter.2 ⟨hr, by simp [er, e]⟩, hsame _ _ (h1 r hr) hw er⟩

/-- Cut: what is known of both parts. -/
structure Cu (n : Nat) (Y : Nat → List (Nat × Nat)) (a b : Nat) (A M B : List (Nat × Nat)) : Prop where
  inM : (b, b) ∈ M
  inR : (a, a) ∈ A ++ B
  apart : ∀ t ∈ M, t ∉ A ++ B
  clM : ∀ t ∈ M, (t.1, t.1) ∈ M ∧ (t.2, t.2) ∈ M
  clR : ∀ t ∈ A ++ B, (t.1, t.1) ∈ A ++ B ∧ (t.2, t.2) ∈ A ++ B
  cwM : Cw M
  cwR : Cw (A ++ B)
  ndM : M.Nodup
  ndR : (A ++ B).Nodup
  mem : ∀ t, t ∈ Y a ↔ t ∈ M ∨ t ∈ A ++ B ∨ t = (a, b) ∨ t = (b, a)
  notin : (a, b) ∉ M ∧ (b, a) ∉ M ∧ (a, b) ∉ A ++ B ∧ (b, a) ∉ A ++ B
theorem Eu.cu {n ms : Nat} {Y : Nat → List (Nat × Nat)} (h : Eu n ms Y) {a b : Nat} {A M B : List (Nat × Nat)} (ha : a < n) (hab : a ≠ b) (e : Y a = A ++ (a, b) :: (M ++ (b, a) :: B)) : Cu n Y a b A M B := by
  have hs : (a, b) ∈ Y a := by rw [e]; simp
  obtain ⟨_, hb, _, eb⟩ := h.one a ha _ hs
  have hnd := h.nodup a ha
  have hmem : ∀ t, t ∈ Y a ↔ t ∈ M ∨ t ∈ A ++ B ∨ t = (a, b) ∨ t = (b, a) := fun t => by
    rw [e]
    simp only [List.mem_append, List.mem_cons]
    constructor
    · rintro (h | h | h | h | h) <;> simp [h]
    · rintro (h | (h | h) | h | h) <;> simp [h]
  have hnd2 : ((a, b) :: (b, a) :: (M ++ (A ++ B))).Nodup := by
    rw [e] at hnd
    refine (List.Perm.nodup_iff ?_).1 hnd
    rw [List.perm_iff_count]
    intro c
    simp only [List.count_append, List.count_cons]
    omega
  rw [List.nodup_cons, List.nodup_cons, List.nodup_append] at hnd2
  obtain ⟨n1, n2, n3, n4, n5⟩ := hnd2
  simp only [List.mem_cons, List.mem_append, not_or] at n1 n2
  obtain ⟨P, p1, p2, p3⟩ := h.bridge a ha _ hs hab
  have hw := h.walk a ha
  rw [e] at hw
  obtain ⟨x, hx⟩ := hw
  obtain ⟨y, c1, e1, c2⟩ := Ch_append.1 hx
  obtain ⟨z, c3, e2, c4⟩ := Ch_append.1 c2
  simp only at e1 e2 c4 c3
  subst e1 e2
  have hpM : ∀ t ∈ M, P t.1 ∧ P t.2 := Ch.stay c3 p1 (fun t ht hp => (p3 t ((hmem t).2 (.inl ht)) (fun e => n1.2.1 (e ▸ ht)) (fun e => n2.1 (e ▸ ht))).1 hp)
  have c5 : Ch a (B ++ A) a := Ch_append.2 ⟨x, c4, c1⟩
  have hpR : ∀ t ∈ A ++ B, ¬ P t.1 ∧ ¬ P t.2 := fun t ht => Ch.stay (P := fun w => ¬ P w) c5 p2 (fun t ht hp => fun hq => by
    have ht2 : t ∈ A ++ B := by rw [List.mem_append] at ht ⊢; exact ht.symm
    exact hp ((p3 t ((hmem t).2 (.inr (.inl ht2))) (fun e => by subst e; rw [List.mem_append] at ht2; exact ht2.elim n1.2.2.1 n1.2.2.2) (fun e => by subst e; rw [List.mem_append] at ht2; exact ht2.elim n2.2.1 n2.2.2)).2 hq)) t (by rw [List.mem_append] at ht ⊢; exact ht.symm)
  have stop : ∀ w, (w, w) ∈ Y a → ((w, w) ∈ M ∧ P w) ∨ ((w, w) ∈ A ++ B ∧ ¬ P w) := fun w hw => by
    rcases (hmem _).1 hw with h | h | h | h
    · exact .inl ⟨h, (hpM _ h).1⟩
    · exact .inr ⟨h, (hpR _ h).1⟩
    · simp only [Prod.mk.injEq] at h; omega
    · simp only [Prod.mk.injEq] at h; omega
  have stops : ∀ t ∈ Y a, (t.1, t.1) ∈ Y a ∧ (t.2, t.2) ∈ Y a := fun t ht => by
    obtain ⟨q1, q2, q3, q4⟩ := h.one a ha t ht
    exact ⟨(h.iff q1 ha).2 q3, (h.iff q2 ha).2 q4⟩
  refine ⟨?_, ?_, fun t ht hr => n5 t ht t hr rfl, fun t ht => ?_, fun t ht => ?_, ⟨_, c3⟩, ?_, n3, n4, hmem, ⟨n1.2.1, n2.1, ?_, ?_⟩⟩
  · exact (stop b ((h.iff hb ha).2 eb)).elim (fun x => x.1) (fun x => absurd p1 x.2)
  · exact (stop a (h.self a ha)).elim (fun x => absurd x.2 p2) (fun x => x.1)
  · obtain ⟨s1, s2⟩ := stops t ((hmem t).2 (.inl ht))
    exact ⟨(stop _ s1).elim (fun x => x.1) (fun x => absurd (hpM t ht).1 x.2), (stop _ s2).elim (fun x => x.1) (fun x => absurd (hpM t ht).2 x.2)⟩
  · obtain ⟨s1, s2⟩ := stops t ((hmem t).2 (.inr (.inl ht)))
    exact ⟨(stop _ s1).elim (fun x => absurd x.2 (hpR t ht).1) (fun x => x.1), (stop _ s2).elim (fun x => absurd x.2 (hpR t ht).2) (fun x => x.1)⟩
  · exact ⟨_, Ch_append.2 ⟨_, c1, c4⟩⟩
  · rw [List.mem_append]; exact fun h => h.elim n1.2.2.1 n1.2.2.2
  · rw [List.mem_append]; exact fun h => h.elim n2.2.1 n2.2.2

theorem len_below {n : Nat} {R : List Nat} (hn : R.Nodup) (h : ∀ r ∈ R, r < n) : R.length ≤ n := by
  have := len_le_of_nodup n (R.map (· + 1)) ?_ ?_
  · simpa using this
  · unfold List.Nodup; rw [List.pairwise_map]; exact hn.imp (fun h e => h (by omega))
  · intro j hj
    obtain ⟨r, hr, rfl⟩ := List.mem_map.1 hj
    have := h r hr
    omega
theorem Eu.cut_at {n ms : Nat} {Y : Nat → List (Nat × Nat)} (h : Eu n ms Y) {a b : Nat} {A M B : List (Nat × Nat)} (ha : a < n) (c : Cu n Y a b A M B) (w : Nat) : ((w, w) ∈ A ++ B ∧ setY (setY Y M) (A ++ B) w = A ++ B) ∨ ((w, w) ∈ M ∧ setY (setY Y M) (A ++ B) w = M) ∨ ((w, w) ∉ A ++ B ∧ (w, w) ∉ M ∧ setY (setY Y M) (A ++ B) w = Y w) := by
  by_cases e : (w, w) ∈ A ++ B
  · exact .inl ⟨e, setY_in e⟩
  · by_cases e2 : (w, w) ∈ M
    · exact .inr (.inl ⟨e2, by rw [setY_out e, setY_in e2]⟩)
    · exact .inr (.inr ⟨e, e2, by rw [setY_out e, setY_out e2]⟩)
theorem Eu.cut {n ms : Nat} {Y : Nat → List (Nat × Nat)} (h : Eu n ms Y) {a b : Nat} {A M B : List (Nat × Nat)} (ha : a < n) (hab : a ≠ b) (e : Y a = A ++ (a, b) :: (M ++ (b, a) :: B)) : 2 ≤ ms ∧ Eu n (ms - 2) (setY (setY Y M) (A ++ B)) := by
  have c := h.cu ha hab e
  have hs : (a, b) ∈ Y a := by rw [e]; simp
  obtain ⟨_, hb, _, eb⟩ := h.one a ha _ hs
  simp only at hb eb
  have hY := h.cut_at ha c
  obtain ⟨Y', hY'⟩ : ∃ Y', Y' = setY (setY Y M) (A ++ B) := ⟨_, rfl⟩
  rw [← hY'] at hY ⊢
  have yR : ∀ w, (w, w) ∈ A ++ B → Y' w = A ++ B := fun w hw => (hY w).elim (fun x => x.2) (fun x => x.elim (fun x => absurd hw (c.apart _ x.1)) (fun x => absurd hw x.1))
  have yM : ∀ w, (w, w) ∈ M → Y' w = M := fun w hw => (hY w).elim (fun x => absurd x.1 (c.apart _ hw)) (fun x => x.elim (fun x => x.2) (fun x => absurd hw x.2.1))
  have yO : ∀ w, w < n → Y w ≠ Y a → Y' w = Y w := fun w hw hne => (hY w).elim (fun x => absurd ((h.iff hw ha).1 ((c.mem _).2 (.inr (.inl x.1)))) hne) (fun x => x.elim (fun x => absurd ((h.iff hw ha).1 ((c.mem _).2 (.inl x.1))) hne) (fun x => x.2.2))
  have which : ∀ w, w < n → Y w = Y a → (w, w) ∈ M ∨ (w, w) ∈ A ++ B := fun w hw hE => by
    rcases (c.mem (w, w)).1 ((h.iff hw ha).2 hE) with x | x | x | x
    · exact .inl x
    · exact .inr x
    · simp only [Prod.mk.injEq] at x; omega
    · simp only [Prod.mk.injEq] at x; omega
  have inA : ∀ t, t ∈ M ∨ t ∈ A ++ B → t ∈ Y a := fun t ht => (c.mem t).2 (ht.imp id .inl)
  have bnd : ∀ t, t ∈ Y a → t.1 < n ∧ t.2 < n := fun t ht => ⟨(h.one a ha t ht).1, (h.one a ha t ht).2.1⟩
  have hself : ∀ w, w < n → (w, w) ∈ Y' w := fun w hw => by
    by_cases e1 : Y w = Y a
    · rcases which w hw e1 with x | x
      · rw [yM w x]; exact x
      · rw [yR w x]; exact x
    · rw [yO w hw e1]; exact h.self w hw
  have hms : ∀ R : List Nat, (∀ r ∈ R, r < n) → (R.map Y).Nodup → R.length + 1 ≤ n := fun R h1 h2 => by
    have hR : R.Nodup := by
      unfold List.Nodup at h2 ⊢
      rw [List.pairwise_map] at h2
      exact h2.imp (fun x e => x (by rw [e]))
    by_cases hA : a ∈ R
    · have hB : b ∉ R := fun hB => hab (pw_inj h2 hA hB eb.symm)
      exact len_below (R := b :: R) (List.nodup_cons.2 ⟨hB, hR⟩) (fun r hr => by rcases List.mem_cons.1 hr with rfl | hr; exact hb; exact h1 r hr)
    · exact len_below (R := a :: R) (List.nodup_cons.2 ⟨hA, hR⟩) (fun r hr => by rcases List.mem_cons.1 hr with rfl | hr; exact ha; exact h1 r hr)
  obtain ⟨R, h1, h2, h3, h4⟩ := h.reps
  have hRn := hms R h1 h2
  refine ⟨by omega, hself, fun w hw s hs => ?_, fun w hw => ?_, fun w hw s hs => ?_, fun w hw => ?_, fun w hw s hs hne => ?_, ?_⟩
  · by_cases e1 : Y w = Y a
    · rcases which w hw e1 with x | x
      · rw [yM w x] at hs ⊢
        obtain ⟨b1, b2⟩ := bnd s (inA s (.inl hs))
        exact ⟨b1, b2, yM _ (c.clM s hs).1, yM _ (c.clM s hs).2⟩
      · rw [yR w x] at hs ⊢
        obtain ⟨b1, b2⟩ := bnd s (inA s (.inr hs))
        exact ⟨b1, b2, yR _ (c.clR s hs).1, yR _ (c.clR s hs).2⟩
    · rw [yO w hw e1] at hs ⊢
      obtain ⟨b1, b2, b3, b4⟩ := h.one w hw s hs
      exact ⟨b1, b2, by rw [yO _ b1 (by rw [b3]; exact e1), b3], by rw [yO _ b2 (by rw [b4]; exact e1), b4]⟩
  · by_cases e1 : Y w = Y a
    · rcases which w hw e1 with x | x
      · rw [yM w x]; exact c.ndM
      · rw [yR w x]; exact c.ndR
    · rw [yO w hw e1]; exact h.nodup w hw
  · by_cases e1 : Y w = Y a
    · rcases which w hw e1 with x | x
      · rw [yM w x] at hs ⊢
        have q := h.back a ha s (inA s (.inl hs))
        rcases (c.mem _).1 q with q | q | q | q
        · exact q
        · exact absurd (c.clR _ q).1 (c.apart _ (c.clM s hs).2)
        · have : s = (b, a) := by obtain ⟨s1, s2⟩ := s; simp only [Prod.mk.injEq] at q ⊢; exact ⟨q.2, q.1⟩
          exact absurd hs (this ▸ c.notin.2.1)
        · have : s = (a, b) := by obtain ⟨s1, s2⟩ := s; simp only [Prod.mk.injEq] at q ⊢; exact ⟨q.2, q.1⟩
          exact absurd hs (this ▸ c.notin.1)
      · rw [yR w x] at hs ⊢
        have q := h.back a ha s (inA s (.inr hs))
        rcases (c.mem _).1 q with q | q | q | q
        · exact absurd (c.clR s hs).2 (c.apart _ (c.clM _ q).1)
        · exact q
        · have : s = (b, a) := by obtain ⟨s1, s2⟩ := s; simp only [Prod.mk.injEq] at q ⊢; exact ⟨q.2, q.1⟩
          exact absurd hs (this ▸ c.notin.2.2.2)
        · have : s = (a, b) := by obtain ⟨s1, s2⟩ := s; simp only [Prod.mk.injEq] at q ⊢; exact ⟨q.2, q.1⟩
          exact absurd hs (this ▸ c.notin.2.2.1)
    · rw [yO w hw e1] at hs ⊢; exact h.back w hw s hs
  · by_cases e1 : Y w = Y a
    · rcases which w hw e1 with x | x
      · rw [yM w x]; exact c.cwM
      · rw [yR w x]; exact c.cwR
    · rw [yO w hw e1]; exact h.walk w hw
  · by_cases e1 : Y w = Y a
    · have hin : ∀ t, t ∈ Y' w → t ∈ Y a := fun t ht => by
        rcases which w hw e1 with x | x
        · rw [yM w x] at ht; exact inA t (.inl ht)
        · rw [yR w x] at ht; exact inA t (.inr ht)
      obtain ⟨P, p1, p2, p3⟩ := h.bridge a ha s (hin s hs) hne
      exact ⟨P, p1, p2, fun t ht => p3 t (hin t ht)⟩
    · rw [yO w hw e1] at hs ⊢; exact h.bridge w hw s hs hne
  · have new : ∃ q, q < n ∧ Y q = Y a ∧ ∀ r ∈ R, Y' r ≠ Y' q := by
      obtain ⟨r0, hr0, er0⟩ := h3 a ha
      have only : ∀ r ∈ R, Y r = Y a → r = r0 := fun r hr er => pw_inj h2 hr hr0 (er.trans er0.symm)
      rcases which r0 (h1 r0 hr0) er0 with x | x
      · refine ⟨a, ha, rfl, fun r hr he => ?_⟩
        rw [yR a c.inR] at he
        by_cases e1 : Y r = Y a
        · rw [only r hr e1, yM r0 x] at he
          exact c.apart _ x (he ▸ x)
        · have hh := hself r (h1 r hr)
          rw [he] at hh
          exact e1 ((h.iff (h1 r hr) ha).1 (inA _ (.inr hh)))
      · refine ⟨b, hb, eb, fun r hr he => ?_⟩
        rw [yM b c.inM] at he
        by_cases e1 : Y r = Y a
        · rw [only r hr e1, yR r0 x] at he
          exact c.apart _ (he ▸ x) x
        · have hh := hself r (h1 r hr)
          rw [he] at hh
          exact e1 ((h.iff (h1 r hr) ha).1 (inA _ (.inl hh)))
    obtain ⟨q, hq, eq, nq⟩ := new
    refine ⟨q :: R, fun r hr => by rcases List.mem_cons.1 hr with rfl | hr; exact hq; exact h1 r hr, ?_, fun w hw => ?_, by simp only [List.length_cons]; omega⟩
    · rw [List.map_cons, List.nodup_cons]
      refine ⟨fun hm => ?_, map_nodup_of h2 (fun x hx y hy hn he => ?_)⟩
      · obtain ⟨r, hr, er⟩ := List.mem_map.1 hm
        exact nq r hr er
      · have hh := hself x (h1 x hx)
        rw [he] at hh
        by_cases e1 : Y y = Y a
        · rcases which y (h1 y hy) e1 with z | z
          · rw [yM y z] at hh; exact hn (((h.iff (h1 x hx) ha).1 (inA _ (.inl hh))).trans e1.symm)
          · rw [yR y z] at hh; exact hn (((h.iff (h1 x hx) ha).1 (inA _ (.inr hh))).trans e1.symm)
        · rw [yO y (h1 y hy) e1] at hh; exact hn ((h.iff (h1 x hx) (h1 y hy)).1 hh)
    · by_cases e1 : Y w = Y a
      · obtain ⟨r0, hr0, er0⟩ := h3 a ha
        have two : ∀ x y, (x < n ∧ Y x = Y a) → (y < n ∧ Y y = Y a) → Y' x ≠ Y' y → ∀ z, (z < n ∧ Y z = Y a) → Y' x = Y' z ∨ Y' y = Y' z := fun x y hx hy hne z hz => by
          rcases which x hx.1 hx.2 with a1 | a1 <;> rcases which y hy.1 hy.2 with a2 | a2 <;> rcases which z hz.1 hz.2 with a3 | a3
          · exact .inl (by rw [yM x a1, yM z a3])
          · exact absurd (by rw [yM x a1, yM y a2]) hne
          · exact .inl (by rw [yM x a1, yM z a3])
          · exact .inr (by rw [yR y a2, yR z a3])
          · exact .inr (by rw [yM y a2, yM z a3])
          · exact .inl (by rw [yR x a1, yR z a3])
          · exact absurd (by rw [yR x a1, yR y a2]) hne
          · exact .inl (by rw [yR x a1, yR z a3])
        rcases two r0 q ⟨h1 r0 hr0, er0⟩ ⟨hq, eq⟩ (nq r0 hr0) w ⟨hw, e1⟩ with x | x
        · exact ⟨r0, by simp [hr0], x⟩
        · exact ⟨q, by simp, x⟩
      · obtain ⟨r, hr, er⟩ := h3 w hw
        exact ⟨r, by simp [hr], by rw [yO r (h1 r hr) (by rw [er]; exact e1), yO w hw e1, er]⟩

end Go.Proofs.Ytnpfagpgploolaa
