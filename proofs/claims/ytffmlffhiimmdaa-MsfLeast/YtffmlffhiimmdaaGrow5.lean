/- What the laws' first loop makes: each vertex is linked with one ahead of it; Evert; the heaviest edge of no way. -/
import Derived.Test.YtffmlffhiimmdaaAwake5
namespace Go.Proofs.Ytffmlffhiimmdaa
open Go.ChangeShapes Go.WideShapes Go.ChangeAt Go.RowKit Go.Maps
set_option linter.unusedVariables false
variable {n : Nat} {ed : Nat → Option Ed} {R : Nat → List Nat} {live : Nat → Prop}

/-- The first i vertices are of one tree, each other one is alone. -/
structure Grows (n i : Nat) (R : Nat → List Nat) : Prop where
  one : ∀ a b, a < i → b < i → (R (2 * a + 1)).head? = (R (2 * b + 1)).head?
  alone : ∀ j, i ≤ j → j < n → R (2 * j + 1) = [2 * j + 1]
  no : ∀ j a, i ≤ j → j < n → a < n → a ≠ j → (R (2 * a + 1)).head? ≠ some (2 * j + 1)
theorem Grows.new (n : Nat) : Grows n 1 (fun x => [x]) :=
  ⟨fun a b ha hb => by have : a = b := by omega
                       rw [this], fun _ _ _ => rfl, fun j a _ _ _ h e => by simp at e; omega⟩
theorem Grows.ne {i k : Nat} (h : Grows n i R) (hi : i < n) (hk : k < i) : (R (2 * k + 1)).head? ≠ (R (2 * i + 1)).head? := by
  rw [h.alone i (Nat.le_refl _) hi]
  exact h.no i k (Nat.le_refl _) hi (by omega) (by omega)
theorem link_head (hT : Rt live R) {U V e x : Nat} (lV : live V) (hx : x ≠ e) : (linkR R U V e x).head? = if (R x).head? = (R U).head? then (R V).head? else (R x).head? := by
  obtain ⟨p, hp⟩ := hT.last V lV
  unfold linkR
  rw [if_neg hx]
  by_cases o : (R x).head? = (R U).head?
  · rw [if_pos o, if_pos o, hp]; simp [List.head?_append]
  · rw [if_neg o, if_neg o]
theorem Grows.link {i u v e : Nat} (h : Grows n i R) (hT : Rt (liveN n ed) R) (hi : i < n) (h1 : 1 ≤ i) (huv : (u < i ∧ v = i) ∨ (u = i ∧ v < i)) : Grows n (i + 1) (linkR R (2 * u + 1) (2 * v + 1) (2 * e + 2)) := by
  have lv : liveN n ed (2 * v + 1) := liveN_v (by omega)
  have hh : ∀ a, (linkR R (2 * u + 1) (2 * v + 1) (2 * e + 2) (2 * a + 1)).head? = if (R (2 * a + 1)).head? = (R (2 * u + 1)).head? then (R (2 * v + 1)).head? else (R (2 * a + 1)).head? := fun a => link_head hT lv (by omega)
  have key : ∀ a, a < i + 1 → (linkR R (2 * u + 1) (2 * v + 1) (2 * e + 2) (2 * a + 1)).head? = (R (2 * v + 1)).head? := fun a ha => by
    rw [hh a]
    by_cases o : (R (2 * a + 1)).head? = (R (2 * u + 1)).head?
    · rw [if_pos o]
    · rw [if_neg o]
      rcases huv with ⟨q1, q2⟩ | ⟨q1, q2⟩
      · by_cases ai : a = i
        · rw [ai, q2]
        · exact absurd (h.one a u (by omega) q1) o
      · by_cases ai : a = i
        · rw [ai, q1] at o; exact absurd rfl o
        · exact h.one a v (by omega) q2
  refine ⟨fun a b ha hb => by rw [key a ha, key b hb], fun j hj hn => ?_, fun j a hj hn ha hne => ?_⟩
  · have o : ¬ (R (2 * j + 1)).head? = (R (2 * u + 1)).head? := fun q => by
      rw [h.alone j (by omega) hn] at q
      exact h.no j u (by omega) hn (by omega) (by omega) q.symm
    unfold linkR
    rw [if_neg (by omega), if_neg o]; exact h.alone j (by omega) hn
  · rw [hh a]
    split
    · exact h.no j v (by omega) hn (by omega) (by omega)
    · exact h.no j a (by omega) hn ha hne
/-- A way between two vertices begins at the one, and has an edge if they are two. -/
theorem way_turn {u v : Nat} (hd : (R (2 * u + 1)).head? = (R (2 * v + 1)).head?) : way R u v = turnR R (2 * u + 1) (2 * v + 1) := (turnR_in (show OneT R (2 * v + 1) (2 * u + 1) from hd.symm)).symm
theorem way_edge (A : Alt n ed R) (ok : EdOk n ed) (hT : Rt (liveN n ed) R) {u v : Nat} (hu : u < n) (hv : v < n) (huv : u ≠ v) (hd : (R (2 * u + 1)).head? = (R (2 * v + 1)).head?) : ∃ k ∈ way R u v, k % 2 = 0 := by
  have lu : liveN n ed (2 * u + 1) := liveN_v hu
  have lv : liveN n ed (2 * v + 1) := liveN_v hv
  rw [way_turn hd]
  have hh := hT.turn_head lu lv hd.symm
  rcases (A.turn ok hT hu).v v hv with q | ⟨i, x, hx, _, q⟩
  · rw [q] at hh; simp at hh; omega
  · refine ⟨2 * i + 2, ?_, by omega⟩
    rw [q]
    obtain ⟨p, hp⟩ := (hT.turn lu).last _ (liveN_e.2 (show (ed i).isSome = true by rw [hx]; rfl))
    rw [hp]; simp
theorem way_self (hT : Rt (liveN n ed) R) {u : Nat} (hu : u < n) : way R u u = [2 * u + 1] := by
  obtain ⟨p, hp⟩ := hT.last _ (liveN_v (ed := ed) hu)
  unfold way; rw [hp]; exact tn_self p _
theorem way_back (hT : Rt (liveN n ed) R) {u v : Nat} (hu : u < n) (hv : v < n) (hd : (R (2 * u + 1)).head? = (R (2 * v + 1)).head?) : way R v u = (way R u v).reverse := by
  obtain ⟨r, h1, _, _⟩ := hT.head (liveN_v (ed := ed) hu)
  unfold way
  exact (tn_reverse _ _ r h1 (hd ▸ h1)).symm
theorem way_evert (hT : Rt (liveN n ed) R) {u v r : Nat} (hu : u < n) (hv : v < n) (hr : r < n) (h1 : (R (2 * u + 1)).head? = (R (2 * r + 1)).head?) (h2 : (R (2 * v + 1)).head? = (R (2 * r + 1)).head?) : way (turnR R (2 * r + 1)) u v = way R u v := by
  obtain ⟨z, hz, _, _⟩ := hT.head (liveN_v (ed := ed) hr)
  unfold way
  rw [turnR_in (show OneT R (2 * u + 1) (2 * r + 1) from h1), turnR_in (show OneT R (2 * v + 1) (2 * r + 1) from h2)]
  exact tn_any _ _ _ z (h1.trans hz) (h2.trans hz) hz (hT.nodup _ (liveN_v hu)) (hT.nodup _ (liveN_v hv))
theorem idl_reverse (X : List Nat) : idl X.reverse = (idl X).reverse := by simp [idl]
theorem idl_ne {X : List Nat} (h : ∃ k ∈ X, k % 2 = 0) : idl X ≠ [] := by
  obtain ⟨k, hk, e⟩ := h
  unfold idl
  intro q
  rw [List.map_eq_nil_iff, List.filter_eq_nil_iff] at q
  exact q k hk (by simp [e])

set_option maxRecDepth 100000 in
theorem most_self (w : World) (o : Nat → Nat) (L p n : Nat) (ed : Nat → Option Ed) (R : Nat → List Nat) (m u : Nat) (X : Tx w o L p n ed R m) (hu : u < n) :
    Calls Try.prog 40 #[.pointer (some ⟨p, 0, none⟩), .int .i64 u, .int .i64 u] w fun e w' => ∃ o', e = .returned (.tuple #[.agg #[.int .i64 0, .int .i64 0, .int .i64 0, .int .i64 0], .int .i64 54]) ∧ Tx w' o' L p n ed R m ∧ Step (TL L) w o w' o' := by
  have s0 := newStep (fun _ => False) w o (L + 5) (.cells #[.int .i64 0, .int .i64 0, .int .i64 0, .int .i64 0] 43)
  have B0 : Blk (w.alloc (.cells #[.int .i64 0, .int .i64 0, .int .i64 0, .int .i64 0] 43)) (newLab w o (L + 5)) (L + 5) w.heap.size (.cells #[.int .i64 0, .int .i64 0, .int .i64 0, .int .i64 0] 43 (0, 0)) := ⟨heap_alloc_new w _, newLab_new (Nat.le_refl _)⟩
  have hc := joined_nl _ _ L p n ed R m u u (X.step s0 (fun _ _ => id)) hu hu
  rw [if_pos rfl] at hc
  have n5 : ¬ NL L (L + 5) := fun h => by have := h.1; omega
  obtain ⟨b0, hb0⟩ : ∃ b0, b0 = w.heap.size := ⟨_, rfl⟩
  rw [← hb0] at B0
  generalize newLab w o (L + 5) = o0 at s0 B0 hc
  go_enter Try.func40, Try.ntmps40
  go_wp2_with fail
  refine hc.mono ?_
  rintro e w1 ⟨rfl, X1, s1⟩
  rw [← hb0]
  have B1 := B0.step s1 n5
  obtain ⟨⟨d0, d1, d2, d3⟩, df⟩ := B1.cell4
  have e0 := B1.stp2 0 (.int .i64 0)
  have C1 := B1.set 0 (.int .i64 0)
  have e1 := C1.stp2 1 (.int .i64 0)
  have C2 := C1.set 1 (.int .i64 0)
  have e2 := C2.stp2 2 (.int .i64 0)
  have C3 := C2.set 2 (.int .i64 0)
  have e3 := C3.stp2 3 (.int .i64 0)
  have s4 := ((e0.trans e1).trans e2).trans e3
  have X4 := X1.step2 s4 (fun k hk x => by rcases hk with hk | hk; exact n5 (x ▸ hk); omega)
  have S4 : Step (TL L) w o _ o0 := (((s0.mono fun _ h => h.elim).trans (s1.mono fun k hk => hk.tl)).trans (s4.mono fun k hk => ⟨by omega, by omega⟩))
  clear hc X X1 hb0 B0 B1 e0 e1 e2 e3 C1 C2 C3 s4 s0 s1
  go_wp2
  exact bodyPost_ret (v := .tuple #[.agg #[.int .i64 0, .int .i64 0, .int .i64 0, .int .i64 0], .int .i64 54]) (by simp [results, Try.results40, go_sem, d0, d1, d2, d3]) rfl ⟨o0, rfl, X4, S4⟩

end Go.Proofs.Ytffmlffhiimmdaa
