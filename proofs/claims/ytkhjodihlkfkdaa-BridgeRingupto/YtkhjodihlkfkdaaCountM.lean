/- Counting components: one edge less parts one at the most; blocks are components and bridges together. No program. -/
import Derived.Test.YtkhjodihlkfkdaaOrderM
namespace Go.Proofs.Ytkhjodihlkfkdaa
open Go.ChangeShapes Go.WideShapes Go.ChangeAt Go.RowKit
set_option linter.unusedVariables false

/-- b tells of each vertex which one its component stands for. -/
structure Lead (l : List (Nat × Nat)) (P : Nat → Prop) (n : Nat) (b : Nat → Nat) : Prop where
  le : ∀ v, v < n → b v ≤ v
  jn : ∀ v, v < n → Jn l P v (b v)
  eq : ∀ x y, x < n → y < n → Jn l P x y → b x = b y
def cntP (b : Nat → Nat) (n : Nat) : Nat := sumN (fun v => if b v = v then 1 else 0) n
section
variable {l : List (Nat × Nat)} {P Q : Nat → Prop} {n : Nat} {b c : Nat → Nat}
theorem Lead.fix (h : Lead l P n b) {v : Nat} (hv : v < n) : b (b v) = b v := by
  have := h.le v hv
  exact (h.eq v (b v) hv (by omega) (h.jn v hv)).symm
theorem Lead.uniq (h : Lead l P n b) (k : Lead l Q n c) (hpq : ∀ x y, x < n → y < n → (Jn l P x y ↔ Jn l Q x y)) : ∀ v, v < n → b v = c v := fun v hv => by
  have h1 := h.le v hv
  have k1 := k.le v hv
  have h2 : c v = c (b v) := k.eq v (b v) hv (by omega) ((hpq v (b v) hv (by omega)).1 (h.jn v hv))
  have k2 : b v = b (c v) := h.eq v (c v) hv (by omega) ((hpq v (c v) hv (by omega)).2 (k.jn v hv))
  have h3 := k.le (b v) (by omega)
  have k3 := h.le (c v) (by omega)
  omega
theorem Lead.cnt (h : Lead l P n b) (k : Lead l Q n c) (hpq : ∀ x y, x < n → y < n → (Jn l P x y ↔ Jn l Q x y)) : cntP b n = cntP c n :=
  sumN_same n fun v hv => by rw [h.uniq k hpq v hv]
theorem least_ex (p : Nat → Prop) : ∀ m, p m → ∃ k, p k ∧ k ≤ m ∧ ∀ j, p j → k ≤ j := by
  intro m
  induction m using Nat.strongRecOn with
  | _ m ih =>
    intro hm
    by_cases q : ∃ j, j < m ∧ p j
    · obtain ⟨j, hj, hp⟩ := q
      obtain ⟨k, h1, h2, h3⟩ := ih j hj hp
      exact ⟨k, h1, by omega, h3⟩
    · refine ⟨m, hm, Nat.le_refl _, fun j hj => ?_⟩
      by_cases z : j < m
      · exact absurd ⟨j, z, hj⟩ q
      · omega
theorem lead_ex (l : List (Nat × Nat)) (P : Nat → Prop) (n : Nat) : ∃ b, Lead l P n b := by
  have h1 : ∀ v, ∃ k, Jn l P v k ∧ k ≤ v ∧ ∀ j, Jn l P v j → k ≤ j := fun v => least_ex (fun k => Jn l P v k) v Jn.refl
  obtain ⟨b, hb⟩ := Classical.axiomOfChoice h1
  refine ⟨b, fun v _ => (hb v).2.1, fun v _ => (hb v).1, fun x y _ _ hxy => ?_⟩
  have a1 := (hb x).2.2 (b y) (hxy.trans (hb y).1)
  have a2 := (hb y).2.2 (b x) (hxy.symm.trans (hb x).1)
  omega
/-- One edge less, its ends joined no more: one component more. -/
theorem Lead.apart (h : Lead l P n b) (k : Lead l Q n c) (hl : ∀ x, x ∈ l → x.1 < n ∧ x.2 < n) {e x y : Nat} (hI : Inc l e x y) (hPQ : ∀ i, P i ↔ Q i ∨ i = e) (hno : ¬ Jn l Q x y) : cntP c n = cntP b n + 1 := by
  have hxy : x < n ∧ y < n := by
    rcases hI with q | q
    · exact hl _ (List.mem_of_getElem? q)
    · exact (hl _ (List.mem_of_getElem? q)).symm
  obtain ⟨hx, hy⟩ := hxy
  have hup : ∀ {a d}, Jn l Q a d → Jn l P a d := fun j => j.mono fun i hi => (hPQ i).2 (.inl hi)
  have hne : c x ≠ c y := fun q => hno ((k.jn x hx).trans (q ▸ (k.jn y hy).symm))
  obtain ⟨m, s, hm, hs, hms⟩ : ∃ m s, (m = c x ∨ m = c y) ∧ (s = c x ∨ s = c y) ∧ s < m := by
    rcases Nat.lt_or_gt_of_ne hne with q | q
    · exact ⟨c y, c x, .inr rfl, .inl rfl, q⟩
    · exact ⟨c x, c y, .inl rfl, .inr rfl, q⟩
  have hcx : c x = m ∨ c x = s := by omega
  have hcy : c y = m ∨ c y = s := by omega
  have lx := k.le x hx
  have ly := k.le y hy
  have hmn : m < n := by omega
  have hsn : s < n := by omega
  have hpe : P e := (hPQ e).2 (.inr rfl)
  have jxy : Jn l P (c x) (c y) := (hup (k.jn x hx)).symm.trans ((Inc.jn hI hpe).trans (hup (k.jn y hy)))
  have jms : Jn l P m s := by
    rcases hm with rfl | rfl
    · rcases hs with rfl | rfl
      · omega
      · exact jxy
    · rcases hs with rfl | rfl
      · exact jxy.symm
      · omega
  have cm : c m = m := by rcases hm with rfl | rfl; exact k.fix hx; exact k.fix hy
  have cs : c s = s := by rcases hs with rfl | rfl; exact k.fix hx; exact k.fix hy
  have lead : Lead l P n (fun z => if c z = m then s else c z) := by
    refine ⟨fun v hv => ?_, fun v hv => ?_, fun u v hu hv huv => ?_⟩
    · have := k.le v hv
      by_cases q : c v = m
      · simp only [if_pos q]; omega
      · simp only [if_neg q]; exact this
    · by_cases q : c v = m
      · simp only [if_pos q]
        have := hup (k.jn v hv)
        rw [q] at this
        exact this.trans jms
      · simp only [if_neg q]; exact hup (k.jn v hv)
    · refine (huv (fun t => t < n ∧ (if c u = m then s else c u) = (if c t = m then s else c t)) ⟨hu, rfl⟩ fun i z hz hP => ?_).2
      obtain ⟨z1, z2⟩ := hl _ (List.mem_of_getElem? hz)
      have same : (if c z.1 = m then s else c z.1) = (if c z.2 = m then s else c z.2) := by
        rcases (hPQ i).1 hP with q | q
        · rw [k.eq z.1 z.2 z1 z2 (Inc.jn (.inl hz) q)]
        · subst q
          have f : ∀ t, (c t = m ∨ c t = s) → (if c t = m then s else c t) = s := fun t ht => by
            by_cases q : c t = m
            · rw [if_pos q]
            · rw [if_neg q]; exact ht.resolve_left q
          rcases hI.ends (.inl hz) with ⟨q1, q2⟩ | ⟨q1, q2⟩
          · rw [q1, q2, f x hcx, f y hcy]
          · rw [q1, q2, f x hcx, f y hcy]
      rw [same]
      exact ⟨fun q => ⟨z2, q.2⟩, fun q => ⟨z1, q.2⟩⟩
  rw [h.cnt lead (fun _ _ _ _ => Iff.rfl)]
  have ind : ∀ v, v < n → (if (fun z => if c z = m then s else c z) v = v then 1 else 0) = put8 (fun v => if c v = v then 1 else 0) m 0 v := fun v hv => by
    by_cases q : v = m
    · subst q
      rw [put8_at]
      simp only [cm, if_true]
      rw [if_neg (by omega)]
    · rw [put8_ne _ _ q]
      by_cases q2 : c v = m
      · simp only [if_pos q2]
        rw [if_neg (fun z => by rw [z] at cs; omega), if_neg (fun z => q (z.symm.trans q2))]
      · simp only [if_neg q2]
  unfold cntP
  rw [sumN_same n ind]
  have := sumN_put (fun v => if c v = v then 1 else 0) (x := 0) n hmn
  simp only [cm, if_true] at this
  omega
end
/-- Without the k-th edge. -/
theorem cnt_without {l : List (Nat × Nat)} {n : Nat} {b c : Nat → Nat} (hl : ∀ x, x ∈ l → x.1 < n ∧ x.2 < n) {k : Nat} (hk : k < l.length) (h : Lead l (fun _ => True) n b) (g : Lead l (fun i => i ≠ k) n c) :
    (Firm l k → cntP c n = cntP b n) ∧ (¬ Firm l k → cntP c n = cntP b n + 1) := by
  have hI : Inc l k l[k].1 l[k].2 := .inl (List.getElem?_eq_getElem hk)
  constructor
  · intro hf
    refine g.cnt h fun x y _ _ => ⟨fun j => j.mono fun _ _ => trivial, fun j => j.sub fun i z hz _ => ?_⟩
    by_cases q : i = k
    · subst q; exact hf.at (.inl hz)
    · exact Inc.jn (.inl hz) q
  · intro hf
    exact h.apart g hl hI (fun i => by simp; exact (Classical.em (i = k)).symm) (fun j => hf ⟨_, _, hI, j⟩)
/-- IDs that rise. -/
def Asc (es : List EdT) : Prop := (∀ x, x ∈ es → 0 ≤ x.id) ∧ es.Pairwise (fun a b => a.id < b.id)
theorem GrE.asc {n m : Nat} {es : List EdT} (G : GrE n m es) : Asc es := ⟨fun x hx => by have := (G.1 x hx).2.2.2.1.1; omega, G.2⟩
theorem idn_at {es : List EdT} {k : Nat} (hk : k < es.length) : idn es k = es[k].id.toNat := by simp [idn, hk]
theorem idn_lt {es : List EdT} (G : Asc es) {i j : Nat} (hij : i < j) (hj : j < es.length) : idn es i < idn es j := by
  rw [idn_at (by omega), idn_at hj]
  have h1 := List.pairwise_iff_getElem.1 G.2 i j (by omega) hj hij
  have h2 := G.1 _ (List.getElem_mem (show i < es.length by omega))
  have h3 := G.1 _ (List.getElem_mem hj)
  omega
theorem Ans.bridge {n : Nat} {es : List EdT} {B : List Nat} {bl : Nat → Nat} (G : Asc es) (A : Ans n es B bl) {k : Nat} (hk : k < es.length) : idn es k ∈ B ↔ ¬ Firm (ends es) k := by
  rw [A.2.1]
  constructor
  · rintro ⟨e, he, h1, h2⟩
    have : e = k := by
      rcases Nat.lt_trichotomy e k with z | z | z
      · have := idn_lt G z hk; omega
      · exact z
      · have := idn_lt G z he; omega
    exact this ▸ h2
  · exact fun h => ⟨k, hk, rfl, h⟩
/-- The IDs of the bridges among the first k edges. -/
def bL (es : List EdT) (B : List Nat) : Nat → List Nat
  | 0 => []
  | k + 1 => if idn es k ∈ B then bL es B k ++ [idn es k] else bL es B k
theorem bL_in {es : List EdT} {B : List Nat} {k : Nat} (h : idn es k ∈ B) : bL es B (k + 1) = bL es B k ++ [idn es k] := by simp only [bL, if_pos h]
theorem bL_out {es : List EdT} {B : List Nat} {k : Nat} (h : idn es k ∉ B) : bL es B (k + 1) = bL es B k := by simp only [bL, if_neg h]
theorem bL_mem {es : List EdT} {B : List Nat} : ∀ k i, i ∈ bL es B k ↔ ∃ e, e < k ∧ idn es e = i ∧ i ∈ B
  | 0, i => by simp [bL]
  | k + 1, i => by
    by_cases q : idn es k ∈ B
    · rw [bL_in q, List.mem_append, bL_mem k i, List.mem_singleton]
      constructor
      · rintro (⟨e, h1, h2⟩ | rfl)
        · exact ⟨e, by omega, h2⟩
        · exact ⟨k, by omega, rfl, q⟩
      · rintro ⟨e, h1, h2, h3⟩
        by_cases z : e = k
        · subst z; exact .inr h2.symm
        · exact .inl ⟨e, by omega, h2, h3⟩
    · rw [bL_out q, bL_mem k i]
      constructor
      · rintro ⟨e, h1, h2⟩; exact ⟨e, by omega, h2⟩
      · rintro ⟨e, h1, h2, h3⟩
        by_cases z : e = k
        · subst z; rw [h2] at q; exact absurd h3 q
        · exact ⟨e, by omega, h2, h3⟩
theorem bL_pw {es : List EdT} {B : List Nat} (G : Asc es) : ∀ k, k ≤ es.length → (bL es B k).Pairwise (· < ·)
  | 0, _ => List.Pairwise.nil
  | k + 1, hk => by
    by_cases q : idn es k ∈ B
    · rw [bL_in q, List.pairwise_append]
      refine ⟨bL_pw G k (by omega), by simp, fun a ha b hb => ?_⟩
      simp only [List.mem_singleton] at hb
      subst hb
      obtain ⟨e, h1, rfl, _⟩ := (bL_mem k a).1 ha
      exact idn_lt G h1 (by omega)
    · rw [bL_out q]; exact bL_pw G k (by omega)
theorem bL_all {n : Nat} {es : List EdT} {B : List Nat} {bl : Nat → Nat} (G : Asc es) (A : Ans n es B bl) : B = bL es B es.length :=
  inc_ext _ _ A.1 (bL_pw G _ (Nat.le_refl _)) fun i => by
    rw [bL_mem]
    constructor
    · intro hi
      obtain ⟨e, h1, h2, _⟩ := (A.2.1 i).1 hi
      exact ⟨e, h1, h2, hi⟩
    · rintro ⟨_, _, _, h⟩; exact h
theorem bL_pre (es : List EdT) (B : List Nat) (k : Nat) : ∀ d, ∃ t, bL es B (k + d) = bL es B k ++ t
  | 0 => ⟨[], by simp⟩
  | d + 1 => by
    obtain ⟨t, h1⟩ := bL_pre es B k d
    by_cases q : idn es (k + d) ∈ B
    · exact ⟨t ++ [idn es (k + d)], by rw [← Nat.add_assoc, bL_in q, h1, List.append_assoc]⟩
    · exact ⟨t, by rw [← Nat.add_assoc, bL_out q, h1]⟩
/-- Where the next bridge stands in the whole list. -/
theorem bL_next {n : Nat} {es : List EdT} {B : List Nat} {bl : Nat → Nat} (G : Asc es) (A : Ans n es B bl) {k : Nat} (hk : k < es.length) :
    (idn es k ∈ B → B[(bL es B k).length]? = some (idn es k)) ∧ (idn es k ∉ B → ∀ i, B[(bL es B k).length]? = some i → i ≠ idn es k) := by
  constructor
  · intro q
    obtain ⟨t, h1⟩ := bL_pre es B (k + 1) (es.length - (k + 1))
    rw [show k + 1 + (es.length - (k + 1)) = es.length by omega, bL_in q, List.append_assoc, ← bL_all G A] at h1
    have h2 : ((bL es B k) ++ ([idn es k] ++ t))[(bL es B k).length]? = some (idn es k) := by
      rw [List.getElem?_append_right (Nat.le_refl _)]; simp
    rw [← h1] at h2
    exact h2
  · intro q i hi z
    exact q (z ▸ List.mem_of_getElem? hi)
theorem bL_le {n : Nat} {es : List EdT} {B : List Nat} {bl : Nat → Nat} (G : Asc es) (A : Ans n es B bl) {k : Nat} (hk : k ≤ es.length) : (bL es B k).length ≤ B.length := by
  obtain ⟨t, h1⟩ := bL_pre es B k (es.length - k)
  rw [show k + (es.length - k) = es.length by omega, ← bL_all G A] at h1
  have := congrArg List.length h1
  rw [List.length_append] at this
  omega
/-- As many blocks as components and bridges together. -/
theorem cnt_blocks {n : Nat} {es : List EdT} {B : List Nat} {bl b : Nat → Nat} (G : Asc es) (hl : ∀ x, x ∈ ends es → x.1 < n ∧ x.2 < n) (A : Ans n es B bl) (h : Lead (ends es) (fun _ => True) n b) : cntB bl n = cntP b n + B.length := by
  have key : ∀ k, k ≤ es.length → ∀ c, Lead (ends es) (fun i => i < k → Firm (ends es) i) n c → cntP c n = cntP b n + (bL es B k).length := fun k => by
    induction k with
    | zero =>
      intro _ c hc
      have := hc.cnt h fun x y _ _ => ⟨fun j => j.mono fun _ _ => trivial, fun j => j.mono fun i _ hi => absurd hi (by omega)⟩
      simpa [bL] using this
    | succ k ih =>
      intro hk c hc
      obtain ⟨d, hd⟩ := lead_ex (ends es) (fun i => i < k → Firm (ends es) i) n
      have h1 := ih (by omega) d hd
      by_cases q : Firm (ends es) k
      · rw [bL_out (fun z => ((Ans.bridge G A (show k < es.length by omega)).1 z) q), ← h1]
        exact hc.cnt hd fun x y _ _ => ⟨fun j => j.mono fun i hi hlt => hi (by omega), fun j => j.mono fun i hi hlt => if z : i = k then z ▸ q else hi (by omega)⟩
      · rw [bL_in ((Ans.bridge G A (show k < es.length by omega)).2 q), List.length_append]
        have hke : k < (ends es).length := by rw [ends_len]; omega
        have hI : Inc (ends es) k (ends es)[k].1 (ends es)[k].2 := .inl (List.getElem?_eq_getElem hke)
        have hc' : Lead (ends es) (fun i => (i < k → Firm (ends es) i) ∧ i ≠ k) n c := by
          have e : (fun i => i < k + 1 → Firm (ends es) i) = (fun i => (i < k → Firm (ends es) i) ∧ i ≠ k) := by
            funext i
            apply propext
            constructor
            · exact fun hi => ⟨fun hlt => hi (by omega), fun z => q (z ▸ hi (by omega))⟩
            · rintro ⟨h1, h2⟩ hlt
              exact h1 (by omega)
          rw [← e]; exact hc
        have := hd.apart hc' hl hI (fun i => ⟨fun hi => if z : i = k then .inr z else .inl ⟨hi, z⟩, fun hi => by
          rcases hi with hi | hi
          · exact hi.1
          · exact fun hlt => by omega⟩) (fun j => q ⟨_, _, hI, j.mono fun i hi => hi.2⟩)
        rw [this, h1]
        simp only [List.length_cons, List.length_nil]
        omega
  have hA : Lead (ends es) (fun i => i < es.length → Firm (ends es) i) n bl := by
    have e : ∀ {x y}, Jn (ends es) (fun i => i < es.length → Firm (ends es) i) x y ↔ Jn (ends es) (Firm (ends es)) x y := fun {x y} =>
      ⟨fun j => j.sub fun i z hz hi => Inc.jn (.inl hz) (hi (by have := (List.getElem?_eq_some_iff.1 hz).1; rw [ends_len] at this; exact this)), fun j => j.mono fun i hi _ => hi⟩
    exact ⟨fun v hv => (A.2.2.1 v hv).1, fun v hv => e.2 (A.2.2.1 v hv).2.symm, fun x y hx hy j => A.2.2.2 x y hx hy (e.1 j)⟩
  have hB : B.length = (bL es B es.length).length := congrArg List.length (bL_all G A)
  rw [hB, ← key es.length (Nat.le_refl _) bl hA]
  exact sumN_same n fun v hv => by
    by_cases q : bl v = v
    · rw [if_pos q.symm, if_pos q]
    · rw [if_neg (fun z => q z.symm), if_neg q]
end Go.Proofs.Ytkhjodihlkfkdaa
