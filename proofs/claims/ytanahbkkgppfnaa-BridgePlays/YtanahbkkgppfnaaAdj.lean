/- The steps from each vertex; a walk at its beginning. No program. -/
import Derived.Test.YtanahbkkgppfnaaThr
namespace Go.Proofs.Ytanahbkkgppfnaa
open Go.ChangeShapes Go.WideShapes Go.ChangeAt Go.RowKit
set_option linter.unusedVariables false

/-- One more edge. -/
def adj1 (f : Nat → List (Nat × Nat)) (k : Nat) (x : Nat × Nat) : Nat → List (Nat × Nat) := put8 f x.1 (f x.1 ++ [(k, x.2)])
/-- The steps over the first k edges. -/
def adj (l : List (Nat × Nat)) : Nat → Nat → List (Nat × Nat)
  | 0 => fun _ => []
  | k + 1 => match l[k]? with
    | none => adj l k
    | some x => adj1 (adj1 (adj l k) k x) k (x.2, x.1)
theorem adj_succ (l : List (Nat × Nat)) {k : Nat} {x : Nat × Nat} (h : l[k]? = some x) : adj l (k + 1) = adj1 (adj1 (adj l k) k x) k (x.2, x.1) := by simp only [adj, h]
theorem adj1_mem {f : Nat → List (Nat × Nat)} {k : Nat} {x : Nat × Nat} {v e y : Nat} : (e, y) ∈ adj1 f k x v ↔ (e, y) ∈ f v ∨ (v = x.1 ∧ e = k ∧ y = x.2) := by
  unfold adj1
  by_cases q : v = x.1
  · subst q; rw [put8_at]; simp
  · rw [put8_ne _ _ q]; simp [q]
theorem adj_mem (l : List (Nat × Nat)) : ∀ k, k ≤ l.length → ∀ v e y, (e, y) ∈ adj l k v ↔ e < k ∧ Inc l e v y
  | 0, _, v, e, y => by simp [adj]
  | k + 1, hk, v, e, y => by
    have hx : l[k]? = some l[k] := List.getElem?_eq_getElem (by omega)
    rw [adj_succ l hx, adj1_mem, adj1_mem, adj_mem l k (by omega) v e y]
    constructor
    · rintro ((⟨h1, h2⟩ | ⟨rfl, rfl, rfl⟩) | ⟨h1, rfl, h3⟩)
      · exact ⟨by omega, h2⟩
      · exact ⟨by omega, .inl hx⟩
      · simp only at h1 h3
        subst h1; subst h3
        exact ⟨by omega, .inr hx⟩
    · rintro ⟨h1, h2⟩
      by_cases q : e = k
      · subst q
        rcases h2 with h2 | h2
        · rw [hx] at h2
          injection h2 with h2
          rw [h2]
          exact .inl (.inr ⟨rfl, rfl, rfl⟩)
        · rw [hx] at h2
          injection h2 with h2
          rw [h2]
          exact .inr ⟨rfl, rfl, rfl⟩
      · exact .inl (.inl ⟨by omega, h2⟩)
theorem adj1_sum {f : Nat → List (Nat × Nat)} {k n : Nat} {x : Nat × Nat} (hx : x.1 < n) : sumN (fun v => (adj1 f k x v).length) n = sumN (fun v => (f v).length) n + 1 := by
  have e1 : (fun v => (adj1 f k x v).length) = put8 (fun v => (f v).length) x.1 ((f x.1).length + 1) := by
    funext v
    unfold adj1
    by_cases q : v = x.1
    · subst q; rw [put8_at, put8_at]; simp
    · rw [put8_ne _ _ q, put8_ne _ _ q]
  rw [e1]
  have := sumN_put (fun v => (f v).length) (x := (f x.1).length + 1) n hx
  omega
theorem adj_sum {l : List (Nat × Nat)} {n : Nat} (hl : ∀ x, x ∈ l → x.1 < n ∧ x.2 < n) : ∀ k, k ≤ l.length → sumN (fun v => (adj l k v).length) n = 2 * k
  | 0, _ => by
    have : ∀ n, sumN (fun v => (adj l 0 v).length) n = 0 := fun n => by
      induction n with
      | zero => rfl
      | succ n ih => simp only [sumN, ih]; rfl
    rw [this]
  | k + 1, hk => by
    have hx : l[k]? = some l[k] := List.getElem?_eq_getElem (by omega)
    obtain ⟨h1, h2⟩ := hl _ (List.getElem_mem (show k < l.length by omega))
    rw [adj_succ l hx, adj1_sum (x := (l[k].2, l[k].1)) h2, adj1_sum h1, adj_sum hl k (by omega)]
    omega
/-- At the beginning. -/
def st0 (l : List (Nat × Nat)) : Dst := ⟨adj l l.length, fun _ => 0, fun _ => 0, fun _ => 0, [], [], 0, [], fun _ => 0⟩
theorem Gv.begin {l : List (Nat × Nat)} {n : Nat} (hn : n ≤ 64) (hll : l.length ≤ 192) (hl : ∀ x, x ∈ l → x.1 < n ∧ x.2 < n) : Gv l n 0 (st0 l) := by
  have hs := adj_sum hl l.length (Nat.le_refl _)
  refine ⟨⟨fun _ => 0, ?_⟩, ?_, ?_, hn, hll, hl⟩
  · constructor
    case tle => exact fun x => Nat.le_refl _
    case tau => exact Nat.le_refl _
    case inj => intro x y hx; exact absurd hx (Nat.lt_irrefl 0)
    case lt => intro x hx; exact absurd hx (Nat.lt_irrefl 0)
    case stI => exact fun x e y hx => ((adj_mem l l.length (Nat.le_refl _) x e y).1 hx).2
    case un => exact fun x e y _ hi => (adj_mem l l.length (Nat.le_refl _) x e y).2 ⟨hi.lt, hi⟩
    case tk => intro x e y hx; exact absurd hx (Nat.lt_irrefl 0)
    case lf => intro x hx; exact absurd hx (Nat.lt_irrefl 0)
    case old => intro x e y hx; exact absurd hx (Nat.lt_irrefl 0)
    case pt => intro x hx; exact absurd hx (by simp [st0])
    case pw => exact List.Pairwise.nil
    case lk => intro i a b ha; exact absurd ha (by simp [st0])
    case rt => intro a ha; exact absurd ha (by simp [st0])
    case an => intro x hx; exact absurd hx (Nat.lt_irrefl 0)
    case lo => intro x e y hx; exact absurd hx (Nat.lt_irrefl 0)
    case wi => intro x hx; exact absurd hx (by simp [st0])
    case ml => intro x e y hx; exact absurd hx (Nat.lt_irrefl 0)
    case opw => exact List.Pairwise.nil
    case opt => intro x hx; exact absurd hx (by simp [st0])
    case oph => intro x hx; exact absurd hx (by simp [st0])
    case oe => exact fun _ => rfl
    case fo => intro x hx; exact absurd hx (by simp [st0])
    case sh => intro x e y hx; exact absurd hx (Nat.lt_irrefl 0)
    case blk => intro x hx; exact absurd hx (Nat.lt_irrefl 0)
    case brb => intro x hx; exact absurd hx (by simp [st0])
    case brx => intro x hx; exact absurd hx (by simp [st0])
    case brn => exact List.Pairwise.nil
    case te => intro x e hx; exact absurd hx (Nat.lt_irrefl 0)
    case ct => intro x y hx; exact absurd hx (Nat.lt_irrefl 0)
    case co => intro x e y hx; exact absurd hx (Nat.lt_irrefl 0)
  · show 0 + sumN (fun x => if (fun _ => 0 : Nat → Nat) x = 0 then 1 else 0) n = n
    have : ∀ n, sumN (fun x => if (fun _ => 0 : Nat → Nat) x = 0 then 1 else 0) n = n := fun n => by
      induction n with
      | zero => rfl
      | succ n ih => show sumN (fun x => if (fun _ => 0 : Nat → Nat) x = 0 then 1 else 0) n + 1 = n + 1; rw [ih]
    rw [this]; omega
  · show sumN (fun v => (adj l l.length v).length) n ≤ 400
    omega
/-- Steps in a row. -/
def stv (t : List (Nat × Nat)) : List Value := t.flatMap fun s => [.int .i64 (s.1 : Nat), .int .i64 (s.2 : Nat)]
theorem stv_len (t : List (Nat × Nat)) : (stv t).length = t.length * 2 := by
  induction t with
  | nil => rfl
  | cons x l ih => simp only [stv, List.flatMap_cons, List.length_append] at ih ⊢; rw [ih]; simp; omega
theorem stv_snoc (t : List (Nat × Nat)) (s : Nat × Nat) : stv (t ++ [s]) = stv t ++ [.int .i64 (s.1 : Nat), .int .i64 (s.2 : Nat)] := by simp [stv]
theorem stv_get : ∀ (t : List (Nat × Nat)) (j : Nat) (hj : j < t.length), (stv t)[j * 2]? = some (.int .i64 (t[j].1 : Nat)) ∧ (stv t)[j * 2 + 1]? = some (.int .i64 (t[j].2 : Nat))
  | x :: l, 0, _ => ⟨rfl, rfl⟩
  | x :: l, j + 1, hj => by
    have := stv_get l j (by simpa using hj)
    have e : ∀ c, (stv (x :: l))[(j + 1) * 2 + c]? = (stv l)[j * 2 + c]? := fun c => by
      show ([.int .i64 (x.1 : Nat), .int .i64 (x.2 : Nat)] ++ stv l)[(j + 1) * 2 + c]? = _
      rw [List.getElem?_append_right (by simp; omega)]
      congr 1
      simp; omega
    simp only [List.getElem_cons_succ]
    exact ⟨(e 0).trans this.1, (e 1).trans this.2⟩
theorem Row.vwS {w : World} {o : Nat → Nat} {i : Nat} {v : Value} {t : List (Nat × Nat)} (h : Row w o i 68 2 v t.length (stv t)) : VwS w o i v t := by
  by_cases h0 : 0 < t.length
  · obtain ⟨g, cap, rfl, hg, hc, hm, hlt, hcell, hfr⟩ := h.pos h0
    refine ⟨_, cap, rfl, hc, hm, fun _ => ⟨g, 0, rfl, hg, hlt, fun j hj => ?_⟩⟩
    rw [Nat.zero_add, hcell (j * 2) (by omega), hcell (j * 2 + 1) (by omega)]
    exact stv_get t j hj
  · rcases h.1.2 with ⟨rfl, _⟩ | ⟨g, cap, cur, rfl, _, _, hc, hm, _⟩
    · exact ⟨none, 0, by rw [show t.length = 0 by omega], by omega, by unfold maxLen; omega, fun h => absurd h h0⟩
    · exact ⟨_, cap, rfl, hc, hm, fun h => absurd h h0⟩
theorem Row.made {w : World} {o : Nat → Nat} {i n : Nat} {e : TypeId} {size : Nat} {X : Array Value} {xs : List Value} (h : X.toList = xs) (hs : X.size = n * size) (hm : n ≤ maxLen) : Row (w.alloc (.cells X e)) (newLab w o i) i e size (.slice (some ⟨w.heap.size, 0, none⟩) n n) n xs := by
  subst h
  refine ⟨World.ownsRow_lit w _ n (Nat.zero_le _) hm hs, fun k hk => ?_⟩
  simp [Value.ownBlock] at hk
  subst hk
  exact newLab_new (Nat.le_refl _)
end Go.Proofs.Ytanahbkkgppfnaa
