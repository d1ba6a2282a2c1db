/- What the texts on bridges share: views of slices that are only read, numbers in rows, places of four cells. -/
import Derived.Test.YtanahbkkgppfnaaArBase
import Derived.Test.YtanahbkkgppfnaaProg
import Derived.Test.YtanahbkkgppfnaaDfs3
import Derived.Deep.RegionLaw
import Derived.Deep.RegionHeld
namespace Go.Proofs.Ytanahbkkgppfnaa
open Go.ChangeShapes Go.WideShapes Go.ChangeAt Go.RowKit
set_option linter.unusedVariables false

theorem Step.ofBelow {I : Nat → Prop} {w w' : World} (o : Nat → Nat) (h : Below w.heap.size w w') : Step I w o w' o := ⟨h.os, h.tape, h.output, h.size, fun _ _ => rfl, fun k hk _ => h.block k hk⟩
theorem Step.toBelow {I : Nat → Prop} {w w' : World} {o o' : Nat → Nat} (s : Step I w o w' o') (h0 : ∀ k, k < w.heap.size → ¬ I (o k)) : Below w.heap.size w w' := s.below h0
theorem below_drew {B : Nat} {a w : World} (h : Below B a w) (n : Nat) : Below B a (w.drewN n) := ⟨h.os, h.tape, h.output, h.size, h.block⟩
/-- All labels from one on. -/
def Pos (k : Nat) : Prop := 0 < k
/-- The labels at the start of a law: all that was there has label nought. -/
def o0 : Nat → Nat := fun _ => 0
theorem Step.old {w w' : World} {o' : Nat → Nat} (s : Step Pos w o0 w' o') : Below w.heap.size w w' := s.below (fun k _ => by simp [Pos, o0])
theorem Step.pos0 {w w' : World} {o o' : Nat → Nat} (s : Step (fun _ => False) w o w' o') : Step Pos w o w' o' := s.mono fun k hk => hk.elim
theorem Step.cell {I : Nat → Prop} {w w' : World} {o o' : Nat → Nat} (s : Step I w o w' o') {g : Nat} (hg : g < w.heap.size) (hi : ¬ I (o g)) (j : Nat) : w'.cell? ⟨g, j, none⟩ = w.cell? ⟨g, j, none⟩ := by
  unfold World.cell?
  show (match w'.heap[g]? with | _ => _) = (match w.heap[g]? with | _ => _)
  rw [s.block g hg hi]
theorem drewStep (I : Nat → Prop) (w : World) (o : Nat → Nat) (m : Nat) : Step I w o (w.drewN m) o := (Step.refl I w o).drewN m
theorem intsL_append (a b : List Nat) : intsL (a ++ b) = intsL a ++ intsL b := by simp [intsL]
theorem intsL_len (a : List Nat) : (intsL a).length = a.length := by simp [intsL]
theorem Blk.cells7 {w : World} {o : Nat → Nat} {i b : Nat} {a0 a1 a2 a3 a4 a5 a6 : Value} {t : TypeId} (h : Blk w o i b (.cells #[a0, a1, a2, a3, a4, a5, a6] t (0, 0))) :
    w.cell? ⟨b, 0, none⟩ = some a0 ∧ w.cell? ⟨b, 1, none⟩ = some a1 ∧ w.cell? ⟨b, 2, none⟩ = some a2 ∧ w.cell? ⟨b, 3, none⟩ = some a3 ∧ w.cell? ⟨b, 4, none⟩ = some a4 ∧ w.cell? ⟨b, 5, none⟩ = some a5 ∧ w.cell? ⟨b, 6, none⟩ = some a6 ∧ ∀ j, w.frozen? ⟨b, j, none⟩ = false := by
  refine ⟨?_, ?_, ?_, ?_, ?_, ?_, ?_, fun j => frozen_of_row w b j _ t h.1⟩ <;> simp [cell_of_row w b _ _ t (0, 0) h.1]
theorem Blk.cells2 {w : World} {o : Nat → Nat} {i b : Nat} {a0 a1 : Value} {t : TypeId} (h : Blk w o i b (.cells #[a0, a1] t (0, 0))) :
    w.cell? ⟨b, 0, none⟩ = some a0 ∧ w.cell? ⟨b, 1, none⟩ = some a1 ∧ ∀ j, w.frozen? ⟨b, j, none⟩ = false := by
  refine ⟨?_, ?_, fun j => frozen_of_row w b j _ t h.1⟩ <;> simp [cell_of_row w b _ _ t (0, 0) h.1]
theorem Blk.stp2 {w : World} {o : Nat → Nat} {i b : Nat} {ob : Obj} (h : Blk w o i b ob) (j : Nat) (u : Value) : Step (fun k => k = i) w o (w.setCell ⟨b, j, none⟩ u) o := setStep _ w o ⟨b, j, none⟩ u h.2

/-- A slice of numbers, only read: its block lies under label i. -/
def Vw (w : World) (o : Nat → Nat) (i : Nat) (v : Value) (xs : List Nat) : Prop :=
  ∃ ao cap, v = .slice ao xs.length cap ∧ xs.length ≤ cap ∧ cap ≤ maxLen ∧ (0 < xs.length → ∃ g off, ao = some ⟨g, off, none⟩ ∧ o g = i ∧ g < w.heap.size ∧ ∀ j (hj : j < xs.length), w.cell? ⟨g, off + j, none⟩ = some (.int .i64 (xs[j] : Nat)))
theorem Vw.step {I : Nat → Prop} {w w' : World} {o o' : Nat → Nat} {i : Nat} {v : Value} {xs : List Nat} (h : Vw w o i v xs) (s : Step I w o w' o') (hi : ¬ I i) : Vw w' o' i v xs := by
  obtain ⟨ao, cap, rfl, hc, hm, hp⟩ := h
  refine ⟨ao, cap, rfl, hc, hm, fun h0 => ?_⟩
  obtain ⟨g, off, h1, h2, h3, h4⟩ := hp h0
  exact ⟨g, off, h1, (s.lab g h3).trans h2, Nat.lt_of_lt_of_le h3 s.size, fun j hj => (s.cell h3 (by rw [h2]; exact hi) _).trans (h4 j hj)⟩
theorem Row.vw {w : World} {o : Nat → Nat} {i : Nat} {v : Value} {xs : List Nat} (h : Row w o i 3 1 v xs.length (intsL xs)) : Vw w o i v xs := by
  by_cases h0 : 0 < xs.length
  · obtain ⟨g, cap, rfl, hg, hc, hm, hlt, hcell, hfr⟩ := h.pos h0
    refine ⟨_, cap, rfl, hc, hm, fun _ => ⟨g, 0, rfl, hg, hlt, fun j hj => ?_⟩⟩
    rw [Nat.zero_add, hcell j (by omega), intsL_get xs j hj]
  · rcases h.1.2 with ⟨rfl, _⟩ | ⟨g, cap, cur, rfl, _, _, hc, hm, _⟩
    · exact ⟨none, 0, by rw [show xs.length = 0 by omega], by omega, by unfold maxLen; omega, fun h => absurd h h0⟩
    · exact ⟨_, cap, rfl, hc, hm, fun h => absurd h h0⟩

/-- An edge as it stands in memory. -/
structure EdT where
  id : Int
  u : Int
  v : Int
  wt : Int
/-- A slice of edges, only read. -/
def VwE (w : World) (o : Nat → Nat) (i : Nat) (v : Value) (es : List EdT) : Prop :=
  ∃ ao cap, v = .slice ao es.length cap ∧ es.length ≤ cap ∧ cap ≤ maxLen ∧ (0 < es.length → ∃ g off, ao = some ⟨g, off, none⟩ ∧ o g = i ∧ g < w.heap.size ∧ ∀ j (hj : j < es.length), w.cell? ⟨g, off + j * 4, none⟩ = some (.int .i64 es[j].id) ∧ w.cell? ⟨g, off + j * 4 + 1, none⟩ = some (.int .i64 es[j].u) ∧ w.cell? ⟨g, off + j * 4 + 2, none⟩ = some (.int .i64 es[j].v) ∧ w.cell? ⟨g, off + j * 4 + 3, none⟩ = some (.int .i64 es[j].wt))
theorem VwE.step {I : Nat → Prop} {w w' : World} {o o' : Nat → Nat} {i : Nat} {v : Value} {es : List EdT} (h : VwE w o i v es) (s : Step I w o w' o') (hi : ¬ I i) : VwE w' o' i v es := by
  obtain ⟨ao, cap, rfl, hc, hm, hp⟩ := h
  refine ⟨ao, cap, rfl, hc, hm, fun h0 => ?_⟩
  obtain ⟨g, off, h1, h2, h3, h4⟩ := hp h0
  have hc := fun k => s.cell h3 (by rw [h2]; exact hi) k
  exact ⟨g, off, h1, (s.lab g h3).trans h2, Nat.lt_of_lt_of_le h3 s.size, fun j hj => ⟨(hc _).trans (h4 j hj).1, (hc _).trans (h4 j hj).2.1, (hc _).trans (h4 j hj).2.2.1, (hc _).trans (h4 j hj).2.2.2⟩⟩
/-- A slice of steps, only read. -/
def VwS (w : World) (o : Nat → Nat) (i : Nat) (v : Value) (t : List (Nat × Nat)) : Prop :=
  ∃ ao cap, v = .slice ao t.length cap ∧ t.length ≤ cap ∧ cap ≤ maxLen ∧ (0 < t.length → ∃ g off, ao = some ⟨g, off, none⟩ ∧ o g = i ∧ g < w.heap.size ∧ ∀ j (hj : j < t.length), w.cell? ⟨g, off + j * 2, none⟩ = some (.int .i64 (t[j].1 : Nat)) ∧ w.cell? ⟨g, off + j * 2 + 1, none⟩ = some (.int .i64 (t[j].2 : Nat)))
theorem VwS.step {I : Nat → Prop} {w w' : World} {o o' : Nat → Nat} {i : Nat} {v : Value} {t : List (Nat × Nat)} (h : VwS w o i v t) (s : Step I w o w' o') (hi : ¬ I i) : VwS w' o' i v t := by
  obtain ⟨ao, cap, rfl, hc, hm, hp⟩ := h
  refine ⟨ao, cap, rfl, hc, hm, fun h0 => ?_⟩
  obtain ⟨g, off, h1, h2, h3, h4⟩ := hp h0
  have hc := fun k => s.cell h3 (by rw [h2]; exact hi) k
  exact ⟨g, off, h1, (s.lab g h3).trans h2, Nat.lt_of_lt_of_le h3 s.size, fun j hj => ⟨(hc _).trans (h4 j hj).1, (hc _).trans (h4 j hj).2⟩⟩

def natsF (b : Nat → Nat) (n : Nat) : List Value := (List.range n).map (fun v => Value.int .i64 (b v : Nat))
theorem natsF_len (b : Nat → Nat) (n : Nat) : (natsF b n).length = n := by simp [natsF]
theorem natsF_get (b : Nat → Nat) {n v : Nat} (h : v < n) : (natsF b n)[v]? = some (.int .i64 (b v : Nat)) := by simp [natsF, h]
theorem natsF_set (b : Nat → Nat) {n u x : Nat} (h : u < n) : (natsF b n).set u (.int .i64 (x : Nat)) = natsF (fun w => if w = u then x else b w) n := by
  apply List.ext_getElem?
  intro i
  rw [List.getElem?_set]
  by_cases hi : i < n
  · rw [natsF_get (fun w => if w = u then x else b w) hi]
    by_cases e : u = i
    · subst e; simp [natsF_len, h]
    · have : ¬ i = u := fun x => e x.symm
      rw [if_neg e, natsF_get b hi]
      simp [this]
  · have h1 : (natsF (fun w => if w = u then x else b w) n)[i]? = none := List.getElem?_eq_none (by rw [natsF_len]; omega)
    have h2 : (natsF b n)[i]? = none := List.getElem?_eq_none (by rw [natsF_len]; omega)
    rw [h1, h2]
    by_cases e : u = i
    · omega
    · simp [e]
/-- The sum of so many numbers. -/
def sumN (b : Nat → Nat) : Nat → Nat
  | 0 => 0
  | n + 1 => sumN b n + b n
theorem sumN_le {b c : Nat → Nat} : ∀ n, (∀ v, v < n → c v ≤ b v) → sumN c n ≤ sumN b n
  | 0, _ => Nat.le_refl _
  | n + 1, h => by
    have := sumN_le n (fun v hv => h v (by omega))
    have := h n (by omega)
    simp only [sumN]; omega
theorem sumN_lt {b c : Nat → Nat} : ∀ n, (∀ v, v < n → c v ≤ b v) → (∃ v, v < n ∧ c v < b v) → sumN c n < sumN b n
  | 0, _, ⟨v, hv, _⟩ => by omega
  | n + 1, h, ⟨v, hv, hl⟩ => by
    simp only [sumN]
    by_cases e : v = n
    · subst e
      have := sumN_le v (fun w hw => h w (by omega))
      omega
    · have := sumN_lt n (fun w hw => h w (by omega)) ⟨v, by omega, hl⟩
      have := h n (by omega)
      omega
theorem sumN_same {b c : Nat → Nat} : ∀ n, (∀ v, v < n → c v = b v) → sumN c n = sumN b n
  | 0, _ => rfl
  | n + 1, h => by simp only [sumN]; rw [sumN_same n (fun v hv => h v (by omega)), h n (by omega)]
theorem sumN_put (b : Nat → Nat) {v x : Nat} : ∀ n, v < n → sumN (put8 b v x) n + b v = sumN b n + x
  | 0, h => by omega
  | n + 1, h => by
    simp only [sumN]
    by_cases e : v = n
    · subst e
      rw [put8_at, sumN_same (b := b) v (fun k hk => put8_ne _ _ (by omega))]
      omega
    · have := sumN_put b n (show v < n by omega) (x := x)
      rw [put8_ne b x (show n ≠ v by omega)]
      omega

/-- So many places of four cells. -/
def pl4 (a b c d : Nat → Value) : Nat → List Value
  | 0 => []
  | n + 1 => pl4 a b c d n ++ [a n, b n, c n, d n]
theorem pl4_len (a b c d : Nat → Value) : ∀ n, (pl4 a b c d n).length = n * 4
  | 0 => rfl
  | n + 1 => by simp only [pl4, List.length_append, pl4_len a b c d n, List.length_cons, List.length_nil]; omega
theorem pl4_get (a b c d : Nat → Value) : ∀ n x, x < n → (pl4 a b c d n)[x * 4]? = some (a x) ∧ (pl4 a b c d n)[x * 4 + 1]? = some (b x) ∧ (pl4 a b c d n)[x * 4 + 2]? = some (c x) ∧ (pl4 a b c d n)[x * 4 + 3]? = some (d x)
  | 0, x, h => by omega
  | n + 1, x, h => by
    simp only [pl4]
    by_cases e : x = n
    · subst e
      have := pl4_len a b c d x
      refine ⟨?_, ?_, ?_, ?_⟩ <;> rw [List.getElem?_append_right (by omega), this] <;> simp
    · have := pl4_len a b c d n
      obtain ⟨h0, h1, h2, h3⟩ := pl4_get a b c d n x (by omega)
      refine ⟨?_, ?_, ?_, ?_⟩ <;> rw [List.getElem?_append_left (by omega)] <;> assumption
theorem pl4_same {a b c d a' b' c' d' : Nat → Value} : ∀ n, (∀ x, x < n → a x = a' x ∧ b x = b' x ∧ c x = c' x ∧ d x = d' x) → pl4 a b c d n = pl4 a' b' c' d' n
  | 0, _ => rfl
  | n + 1, h => by
    obtain ⟨h0, h1, h2, h3⟩ := h n (by omega)
    simp only [pl4]; rw [pl4_same n (fun x hx => h x (by omega)), h0, h1, h2, h3]
theorem pl4_set (a b c d : Nat → Value) (u : Value) {x : Nat} : ∀ n, x < n → (pl4 a b c d n).set (x * 4) u = pl4 (put8 a x u) b c d n ∧ (pl4 a b c d n).set (x * 4 + 1) u = pl4 a (put8 b x u) c d n ∧ (pl4 a b c d n).set (x * 4 + 2) u = pl4 a b (put8 c x u) d n ∧ (pl4 a b c d n).set (x * 4 + 3) u = pl4 a b c (put8 d x u) n
  | 0, h => by omega
  | n + 1, h => by
    simp only [pl4]
    have hl := pl4_len a b c d n
    by_cases e : x = n
    · subst e
      have hs : ∀ {a' b' c' d' : Nat → Value}, (∀ k, k < x → a k = a' k ∧ b k = b' k ∧ c k = c' k ∧ d k = d' k) → pl4 a' b' c' d' x = pl4 a b c d x := fun h => (pl4_same x h).symm
      refine ⟨?_, ?_, ?_, ?_⟩
      · rw [List.set_append_right _ _ (by omega), hl, put8_at, hs (a' := put8 a x u) (fun k hk => ⟨(put8_ne _ _ (by omega)).symm, rfl, rfl, rfl⟩)]; simp
      · rw [List.set_append_right _ _ (by omega), hl, put8_at, hs (b' := put8 b x u) (fun k hk => ⟨rfl, (put8_ne _ _ (by omega)).symm, rfl, rfl⟩)]; simp
      · rw [List.set_append_right _ _ (by omega), hl, put8_at, hs (c' := put8 c x u) (fun k hk => ⟨rfl, rfl, (put8_ne _ _ (by omega)).symm, rfl⟩)]; simp
      · rw [List.set_append_right _ _ (by omega), hl, put8_at, hs (d' := put8 d x u) (fun k hk => ⟨rfl, rfl, rfl, (put8_ne _ _ (by omega)).symm⟩)]; simp
    · obtain ⟨h0, h1, h2, h3⟩ := pl4_set a b c d u n (show x < n by omega)
      refine ⟨?_, ?_, ?_, ?_⟩
      · rw [List.set_append_left _ _ (by omega), h0, put8_ne a u (show n ≠ x by omega)]
      · rw [List.set_append_left _ _ (by omega), h1, put8_ne b u (show n ≠ x by omega)]
      · rw [List.set_append_left _ _ (by omega), h2, put8_ne c u (show n ≠ x by omega)]
      · rw [List.set_append_left _ _ (by omega), h3, put8_ne d u (show n ≠ x by omega)]
theorem put8_map {α β : Type} (g : α → β) (f : Nat → α) (a : Nat) (x : α) : put8 (fun k => g (f k)) a (g x) = fun k => g (put8 f a x k) := by
  funext k
  unfold put8
  split <;> rfl
end Go.Proofs.Ytanahbkkgppfnaa
