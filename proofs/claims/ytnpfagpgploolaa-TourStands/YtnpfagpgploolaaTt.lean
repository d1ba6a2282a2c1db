/- Tours in plain terms: of each vertex its tour, of each step its item. -/
import Derived.Test.YtnpfagpgploolaaEu
import Derived.Test.YtnpfagpgploolaaCutT
import Derived.Test.YtnpfagpgploolaaNewT
import Derived.Test.YtnpfagpgploolaaWalkT
namespace Go.Proofs.Ytnpfagpgploolaa
open Go.ChangeShapes Go.WideShapes Go.ChangeAt Go.RowKit Go.Maps
set_option linter.unusedVariables false

/-- Handles and steps. -/
structure La (n N : Nat) (free : List Nat) (g : Nat → Nat × Nat) (f : Nat → Nat → Nat) (ms : Nat) (it : Nat → It) (D : Nat × Nat → It) : Prop where
  stop : ∀ v, v < n → Live N free (v + 1) ∧ g (v + 1) = (v, v)
  rng : ∀ k, Live N free k → (g k).1 < n ∧ (g k).2 < n
  only : ∀ k, Live N free k → (g k).1 = (g k).2 → k = (g k).1 + 1
  back : ∀ k, Live N free k → (g k).1 ≠ (g k).2 → f (g k).1 (g k).2 = k
  edge : ∀ u v, u < 64 → v < 64 → f u v ≠ 0 → u ≠ v ∧ Live N free (f u v) ∧ g (f u v) = (u, v)
  item : ∀ k, Live N free k → it k = D (g k)
  many : N - free.length = n + ms
/-- Sequences and tours. -/
def Tq (N : Nat) (free : List Nat) (S : Nat → List Nat) (g : Nat → Nat × Nat) (Y : Nat → List (Nat × Nat)) : Prop := ∀ k, Live N free k → (S k).map g = Y (g k).1
theorem La.inj {n N : Nat} {free : List Nat} {g : Nat → Nat × Nat} {f : Nat → Nat → Nat} {ms : Nat} {it : Nat → It} {D : Nat × Nat → It} (h : La n N free g f ms it D) {j k : Nat} (hj : Live N free j) (hk : Live N free k) (e : g j = g k) : j = k := by
  by_cases e1 : (g j).1 = (g j).2
  · rw [h.only j hj e1, h.only k hk (by rw [← e]; exact e1), e]
  · rw [← h.back j hj e1, ← h.back k hk (by rw [← e]; exact e1), e]
theorem Tq.mem {n N : Nat} {free : List Nat} {S : Nat → List Nat} {g : Nat → Nat × Nat} {f : Nat → Nat → Nat} {ms : Nat} {it : Nat → It} {D : Nat × Nat → It} {Y : Nat → List (Nat × Nat)} (t : Tq N free S g Y) (q : Sq N free S) (h : La n N free g f ms it D) {j k : Nat} (hj : Live N free j) (hk : Live N free k) : j ∈ S k ↔ g j ∈ Y (g k).1 := by
  rw [← t k hk]
  constructor
  · exact fun hm => List.mem_map.2 ⟨j, hm, rfl⟩
  · intro hm
    obtain ⟨i, hi, e⟩ := List.mem_map.1 hm
    rw [← h.inj (q.mem k hk i hi).1 hj e]; exact hi
theorem Tq.at {n N : Nat} {free : List Nat} {S : Nat → List Nat} {g : Nat → Nat × Nat} {f : Nat → Nat → Nat} {ms : Nat} {it : Nat → It} {D : Nat × Nat → It} {Y : Nat → List (Nat × Nat)} (t : Tq N free S g Y) (h : La n N free g f ms it D) {v : Nat} (hv : v < n) : (S (v + 1)).map g = Y v := by
  obtain ⟨a, b⟩ := h.stop v hv
  rw [t _ a, b]
theorem Tq.same {n N : Nat} {free : List Nat} {S : Nat → List Nat} {g : Nat → Nat × Nat} {f : Nat → Nat → Nat} {ms : Nat} {it : Nat → It} {D : Nat × Nat → It} {Y : Nat → List (Nat × Nat)} (t : Tq N free S g Y) (q : Sq N free S) (h : La n N free g f ms it D) {u v : Nat} (hu : u < n) (hv : v < n) : S (u + 1) = S (v + 1) ↔ Y u = Y v := by
  constructor
  · intro e; rw [← t.at h hu, ← t.at h hv, e]
  · intro e
    have hm : (v + 1) ∈ S (u + 1) := by
      rw [t.mem q h (h.stop v hv).1 (h.stop u hu).1, (h.stop u hu).2, (h.stop v hv).2]
      show (v, v) ∈ Y u
      rw [e, ← t.at h hv]
      exact List.mem_map.2 ⟨v + 1, q.self _ (h.stop v hv).1, (h.stop v hv).2⟩
    exact (q.mem _ (h.stop u hu).1 _ hm).2.symm
/-- An edge's node is there just if its step is. -/
theorem La.has {n N : Nat} {free : List Nat} {S : Nat → List Nat} {g : Nat → Nat × Nat} {f : Nat → Nat → Nat} {ms : Nat} {it : Nat → It} {D : Nat × Nat → It} {Y : Nat → List (Nat × Nat)} (h : La n N free g f ms it D) (t : Tq N free S g Y) (q : Sq N free S) (hn : n ≤ 64) {u v : Nat} (hu : u < n) (hv : v < n) : f u v ≠ 0 ↔ u ≠ v ∧ (u, v) ∈ Y u := by
  constructor
  · intro hf
    obtain ⟨a, b, c⟩ := h.edge u v (by omega) (by omega) hf
    refine ⟨a, ?_⟩
    have := t _ b
    rw [c] at this
    rw [← this]
    exact List.mem_map.2 ⟨f u v, q.self _ b, c⟩
  · rintro ⟨a, b⟩ hf
    rw [← t.at h hu] at b
    obtain ⟨k, hk, e⟩ := List.mem_map.1 b
    have lk := (q.mem _ (h.stop u hu).1 k hk).1
    have := h.back k lk (by rw [e]; exact a)
    rw [e] at this
    have l1 := lk.1
    simp only at this
    omega
theorem Tq.set {N : Nat} {free : List Nat} {S : Nat → List Nat} {g : Nat → Nat × Nat} {Y : Nat → List (Nat × Nat)} {Zh : List Nat} {Z : List (Nat × Nat)} (hz : Zh.map g = Z) (hst : ∀ k, Live N free k → (k ∈ Zh ↔ ((g k).1, (g k).1) ∈ Z)) (old : ∀ k, Live N free k → k ∉ Zh → (S k).map g = Y (g k).1) : Tq N free (setS S Zh) g (setY Y Z) := by
  intro k hk
  by_cases e : k ∈ Zh
  · rw [setS_in e, setY_in ((hst k hk).1 e), hz]
  · rw [setS_out e, setY_out (fun x => e ((hst k hk).2 x)), old k hk e]

/-- Tours: Y of each vertex, D of each step. -/
def Tt (w : World) (o : Nat → Nat) (L p n : Nat) (Y : Nat → List (Nat × Nat)) (D : Nat × Nat → It) : Prop :=
  ∃ N free it S g f ms, Tm w o L p n N free it S g f ms (stsOf n) ∧ La n N free g f ms it D ∧ Tq N free S g Y ∧ Eu n ms Y ∧ (1 ≤ n ∧ n ≤ 64)
theorem Tt.step {I : Nat → Prop} {w w' : World} {o o' : Nat → Nat} {L p n : Nat} {Y : Nat → List (Nat × Nat)} {D : Nat × Nat → It} (h : Tt w o L p n Y D) (s : Step I w o w' o') (hi : ∀ k, TL L k → ¬ I k) : Tt w' o' L p n Y D := by
  obtain ⟨N, free, it, S, g, f, ms, T, r⟩ := h
  exact ⟨N, free, it, S, g, f, ms, T.step s hi, r⟩
theorem Tt.quiet {w w' : World} {o o' : Nat → Nat} {L p n : Nat} {Y : Nat → List (Nat × Nat)} {D : Nat × Nat → It} (h : Tt w o L p n Y D) (s : Step (fun _ => False) w o w' o') : Tt w' o' L p n Y D := h.step s (fun _ _ => id)
theorem Tt.eu {w : World} {o : Nat → Nat} {L p n : Nat} {Y : Nat → List (Nat × Nat)} {D : Nat × Nat → It} (h : Tt w o L p n Y D) : ∃ ms, Eu n ms Y := by
  obtain ⟨N, free, it, S, g, f, ms, T, La, t, E, hn⟩ := h
  exact ⟨ms, E⟩

theorem new_t (w : World) (o : Nat → Nat) (L n : Nat) (h1 : 1 ≤ n) (h2 : n ≤ 64) :
    Calls Try.prog 7 #[.int .i64 n] w fun e w' => ∃ p, e = .returned (.tuple #[.pointer (some ⟨p, 0, none⟩), .int .i64 0]) ∧ ∃ o', Tt w' o' L p n (fun v => [(v, v)]) (fun s => ⟨0, decide (s.1 = s.2), 0⟩) ∧ Step (TL L) w o w' o' := by
  refine (new_in w o L n h1 h2).mono ?_
  rintro e w' ⟨p, rfl, o', it, S, g, ⟨T, P⟩, np, s⟩
  refine ⟨p, rfl, o', ⟨n, [], it, S, g, _, 0, T, ⟨P.stop, P.rng, P.only, P.back, fun u v _ _ h => absurd rfl h, fun k hk => ?_, by simp⟩, fun k hk => ?_, Eu.new n, h1, h2⟩, s⟩
  · obtain ⟨a, b, c⟩ := np k hk.1 hk.2.1
    rw [a, c]; simp
  · obtain ⟨a, b, c⟩ := np k hk.1 hk.2.1
    rw [b, c]; simp [c]

theorem same_t (w : World) (o : Nat → Nat) (L p n : Nat) (Y : Nat → List (Nat × Nat)) (D : Nat × Nat → It) (u v : Nat) (T : Tt w o L p n Y D) (hu : u < n) (hv : v < n) :
    Calls Try.prog 35 #[.pointer (some ⟨p, 0, none⟩), .int .i64 u, .int .i64 v] w fun e w' => e = .returned (.tuple #[.bool (decide (Y u = Y v)), .int .i64 0]) ∧ ∃ o', Tt w' o' L p n Y D ∧ Step (TL L) w o w' o' := by
  obtain ⟨N, free, it, S, g, f, ms, T, la, t, E, hn⟩ := T
  have q := T.sq
  refine (same_in w o L p n N free it S g f ms u v T hu hv (la.stop u hu).1 (la.stop v hv).1).mono ?_
  rintro e w' ⟨rfl, o', T', s⟩
  refine ⟨?_, o', ⟨N, free, it, S, g, f, ms, T', la, t, E, hn⟩, s.tl⟩
  congr 5
  exact decide_eq_decide.2 (t.same q la hu hv)

theorem reroot_t (w : World) (o : Nat → Nat) (L p n : Nat) (Y : Nat → List (Nat × Nat)) (D : Nat × Nat → It) (v : Nat) (T : Tt w o L p n Y D) (hv : v < n) :
    Calls Try.prog 19 #[.pointer (some ⟨p, 0, none⟩), .int .i64 v] w fun e w' => e = .returned (.int .i64 0) ∧ ∃ o', Tt w' o' L p n (setY Y (turnX (Y v) (v, v))) D ∧ Step (TL L) w o w' o' := by
  obtain ⟨N, free, it, S, g, f, ms, T, la, t, E, hn⟩ := T
  have q := T.sq
  have lv := (la.stop v hv).1
  obtain ⟨A, B, hS⟩ := List.append_of_mem (q.self _ lv)
  refine (reroot_in w o L p n N free it S g f ms v A B T hv lv hS).mono ?_
  rintro e w' ⟨rfl, o', T', s⟩
  refine ⟨rfl, o', ⟨N, free, it, _, g, f, ms, T', la, ?_, E.turn hv, hn⟩, s.tl⟩
  have hz : ((v + 1) :: B ++ A).map g = turnX (Y v) (v, v) := by
    have e := t.at la hv
    rw [hS, List.map_append, List.map_cons, (la.stop v hv).2] at e
    have hnd := E.nodup v hv
    rw [← e, List.nodup_append] at hnd
    have hni : (v, v) ∉ A.map g := fun hm => hnd.2.2 _ hm _ (by simp) rfl
    unfold turnX
    rw [← e, ahead_eq hni, behind_eq hni]
    simp [(la.stop v hv).2]
  have hmm : ∀ k, k ∈ (v + 1) :: B ++ A ↔ k ∈ S (v + 1) := fun k => by
    rw [hS]; simp only [List.mem_append, List.mem_cons]
    constructor
    · rintro ((h | h) | h) <;> simp [h]
    · rintro (h | h | h) <;> simp [h]
  refine Tq.set hz (fun k hk => ?_) (fun k hk _ => t k hk)
  rw [hmm, mem_turnX (E.self v hv), t.mem q la hk lv, (la.stop v hv).2, E.iff (la.rng k hk).1 hv]
  constructor
  · intro hm; exact (E.one v hv _ hm).2.2.1
  · intro e
    show g k ∈ Y v
    rw [← e, ← t k hk]; exact List.mem_map.2 ⟨k, q.self k hk, rfl⟩

/-- The vertices of a tour, in the order of their stops. -/
def walkY (X : List (Nat × Nat)) : List Nat := (X.filter (fun s => s.1 = s.2)).map (fun s => s.2)
theorem walkL_map (g : Nat → Nat × Nat) (X : List Nat) : walkL g X = walkY (X.map g) := by
  unfold walkL walkY
  rw [List.filter_map, List.map_map]
  rfl
theorem walk_t (w : World) (o : Nat → Nat) (L p n lb : Nat) (Y : Nat → List (Nat × Nat)) (D : Nat × Nat → It) (v : Nat) (T : Tt w o L p n Y D) (hv : v < n) (hlb : ¬ TL L lb) :
    Calls Try.prog 20 #[.pointer (some ⟨p, 0, none⟩), .int .i64 v] w fun e w' => ∃ va o', e = .returned (.tuple #[va, .int .i64 0]) ∧ Row w' o' lb 3 1 va (walkY (Y v)).length (intsL (walkY (Y v))) ∧ Tt w' o' L p n Y D ∧ Step (fun k => TL L k ∨ k = lb) w o w' o' := by
  obtain ⟨N, free, it, S, g, f, ms, T, la, t, E, hn⟩ := T
  refine (walk_in w o L p n N lb free it S g f ms v T hv (la.stop v hv).1 hlb).mono ?_
  rintro e w' ⟨va, o', rfl, r, T', s⟩
  rw [walkL_map, t.at la hv] at r
  exact ⟨va, o', rfl, r, ⟨N, free, it, S, g, f, ms, T', la, t, E, hn⟩, s⟩

theorem link_t (w : World) (o : Nat → Nat) (L p n : Nat) (Y : Nat → List (Nat × Nat)) (D : Nat × Nat → It) (u v : Nat) (T : Tt w o L p n Y D) (hu : u < n) (hv : v < n) (hne : Y u ≠ Y v) :
    Calls Try.prog 14 #[.pointer (some ⟨p, 0, none⟩), .int .i64 u, .int .i64 v] w fun e w' => e = .returned (.int .i64 0) ∧ ∃ o', Tt w' o' L p n (setY Y (linkX (Y u) (Y v) u v)) (fun s => if s = (u, v) ∨ s = (v, u) then ⟨0, false, 0⟩ else D s) ∧ Step (TL L) w o w' o' := by
  obtain ⟨N, free, it, S, g, f, ms, T, la, t, E, hn⟩ := T
  have q := T.sq
  have wf := T.wf
  have huv : u ≠ v := fun e => hne (by rw [e])
  have lu := (la.stop u hu).1
  have lv := (la.stop v hv).1
  have hS : S (u + 1) ≠ S (v + 1) := fun e => hne ((t.same q la hu hv).1 e)
  obtain ⟨A, B, hA⟩ := List.append_of_mem (q.self _ lu)
  obtain ⟨C, E', hC⟩ := List.append_of_mem (q.self _ lv)
  have hroom := E.room hu hv hne
  have hmany := la.many
  have f1 : f u v = 0 := Classical.byContradiction fun h => hne (E.one u hu _ ((la.has t q hn.2 hu hv).1 h).2).2.2.2.symm
  have f2 : f v u = 0 := Classical.byContradiction fun h => hne (E.one v hv _ ((la.has t q hn.2 hv hu).1 h).2).2.2.2
  obtain ⟨x, y, N2, free2, nx, ny, nxy, ⟨x1, y1⟩, lives, hlen, hc⟩ := link_in n N free it S u v A B C E' wf q (by omega) hn.2 hu hv huv lu lv hS hA hC
  refine (hc w o L p g f ms f1 f2 (by omega) T).mono ?_
  rintro e w' ⟨rfl, o', T', s⟩
  have gold : ∀ k, Live N free k → (if k = y then (v, u) else if k = x then (u, v) else g k) = g k := fun k hk => by
    rw [if_neg (fun e : k = y => ny (e ▸ hk)), if_neg (fun e : k = x => nx (e ▸ hk))]
  have gx : (if x = y then (v, u) else if x = x then (u, v) else g x) = (u, v) := by rw [if_neg nxy, if_pos rfl]
  have gy : (if y = y then (v, u) else if y = x then (u, v) else g y) = (v, u) := if_pos rfl
  have olds : ∀ k, Live N free k → ∀ j ∈ S k, Live N free j := fun k hk j hj => (q.mem k hk j hj).1
  have mapold : ∀ X : List Nat, (∀ j ∈ X, Live N free j) → X.map (fun j => if j = y then (v, u) else if j = x then (u, v) else g j) = X.map g := fun X hX => List.map_congr_left (fun j hj => gold j (hX j hj))
  have nstep : ∀ k, Live N free k → g k ≠ (u, v) ∧ g k ≠ (v, u) := fun k hk => by
    constructor
    · intro e
      have := la.back k hk (by rw [e]; exact huv)
      rw [e] at this; simp only [f1] at this; have := hk.1; omega
    · intro e
      have := la.back k hk (by rw [e]; exact huv.symm)
      rw [e] at this; simp only [f2] at this; have := hk.1; omega
  refine ⟨rfl, o', ⟨N2, free2, _, _, _, _, ms + 2, T', ⟨fun w hw => ?_, fun k hk => ?_, fun k hk he => ?_, fun k hk he => ?_, fun a b ha hb hf => ?_, fun k hk => ?_, by omega⟩, ?_, E.link hu hv hne, hn⟩, s⟩
  · obtain ⟨a, b⟩ := la.stop w hw
    exact ⟨(lives _).2 (.inl a), by rw [gold _ a, b]⟩
  · rcases (lives k).1 hk with h | rfl | rfl
    · rw [gold k h]; exact la.rng k h
    · rw [gx]; exact ⟨hu, hv⟩
    · rw [gy]; exact ⟨hv, hu⟩
  · rcases (lives k).1 hk with h | rfl | rfl
    · rw [gold k h] at he ⊢; exact la.only k h he
    · rw [gx] at he; exact absurd he huv
    · rw [gy] at he; exact absurd he.symm huv
  · rcases (lives k).1 hk with h | rfl | rfl
    · rw [gold k h] at he ⊢
      obtain ⟨n1, n2⟩ := nstep k h
      unfold upd2
      rw [if_neg (fun e => n2 (by rw [← e.1, ← e.2])), if_neg (fun e => n1 (by rw [← e.1, ← e.2]))]
      exact la.back k h he
    · rw [gx]; unfold upd2; rw [if_neg (fun e => huv e.1), if_pos ⟨rfl, rfl⟩]
    · rw [gy]; unfold upd2; rw [if_pos ⟨rfl, rfl⟩]
  · unfold upd2 at hf ⊢
    by_cases e1 : a = v ∧ b = u
    · obtain ⟨rfl, rfl⟩ := e1
      simp only [and_self, if_true]
      exact ⟨huv.symm, (lives _).2 (.inr (.inr rfl)), trivial⟩
    · rw [if_neg e1] at hf ⊢
      by_cases e2 : a = u ∧ b = v
      · obtain ⟨rfl, rfl⟩ := e2
        simp only [and_self, if_true]
        exact ⟨huv, (lives _).2 (.inr (.inl rfl)), by rw [if_neg nxy]⟩
      · rw [if_neg e2] at hf ⊢
        obtain ⟨q1, q2, q3⟩ := la.edge a b ha hb hf
        exact ⟨q1, (lives _).2 (.inl q2), by rw [gold _ q2, q3]⟩
  · unfold upd
    rcases (lives k).1 hk with h | rfl | rfl
    · rw [gold k h, if_neg (fun e : k = y => ny (e ▸ h)), if_neg (fun e : k = x => nx (e ▸ h))]
      obtain ⟨n1, n2⟩ := nstep k h
      simp only [n1, n2, or_self, if_false]
      exact la.item k h
    · rw [gx, if_neg nxy]; simp
    · rw [gy]; simp
  · have eu := t.at la hu
    have ev := t.at la hv
    rw [hA, List.map_append, List.map_cons, (la.stop u hu).2] at eu
    rw [hC, List.map_append, List.map_cons, (la.stop v hv).2] at ev
    have du := E.nodup u hu
    have dv := E.nodup v hv
    rw [← eu, List.nodup_append] at du
    rw [← ev, List.nodup_append] at dv
    have hiu : (u, u) ∉ A.map g := fun hm => du.2.2 _ hm _ (by simp) rfl
    have hiv : (v, v) ∉ C.map g := fun hm => dv.2.2 _ hm _ (by simp) rfl
    have oA := olds _ lu
    have oC := olds _ lv
    rw [hA] at oA
    rw [hC] at oC
    have hz : (linkZ A B C E' (u + 1) (v + 1) x y).map (fun j => if j = y then (v, u) else if j = x then (u, v) else g j) = linkX (Y u) (Y v) u v := by
      unfold linkZ linkX turnX
      rw [← eu, ← ev, ahead_eq hiu, behind_eq hiu, ahead_eq hiv, behind_eq hiv]
      simp only [List.map_append, List.map_cons, List.map_nil]
      rw [mapold A (fun j hj => oA j (by simp [hj])), mapold B (fun j hj => oA j (by simp [hj])), mapold C (fun j hj => oC j (by simp [hj])), mapold E' (fun j hj => oC j (by simp [hj])), gold _ lu, gold _ lv, (la.stop u hu).2, (la.stop v hv).2]
      simp [nxy]
    have hmz : ∀ k, k ∈ linkZ A B C E' (u + 1) (v + 1) x y ↔ k ∈ S (u + 1) ∨ k ∈ S (v + 1) ∨ k = x ∨ k = y := fun k => by
      rw [hA, hC]; unfold linkZ
      simp only [List.mem_append, List.mem_cons, List.not_mem_nil, or_false]
      constructor
      · rintro (((((h | h) | h) | ((h | h) | h)) | h) | h) <;> simp [h]
      · rintro ((h | h | h) | (h | h | h) | h | h) <;> simp [h]
    have key : ∀ k, Live N free k → ∀ w, w < n → (k ∈ S (w + 1) ↔ Y (g k).1 = Y w) := fun k hk w hw => by
      rw [t.mem q la hk (la.stop w hw).1, (la.stop w hw).2]
      constructor
      · intro hm; exact (E.one w hw _ hm).2.2.1
      · intro e; show g k ∈ Y w; rw [← e, ← t k hk]; exact List.mem_map.2 ⟨k, q.self k hk, rfl⟩
    refine Tq.set hz (fun k hk => ?_) (fun k hk hno => ?_)
    · rw [hmz, mem_linkX (E.self u hu) (E.self v hv)]
      rcases (lives k).1 hk with h | rfl | rfl
      · rw [gold k h, key k h u hu, key k h v hv, E.iff (la.rng k h).1 hu, E.iff (la.rng k h).1 hv]
        constructor
        · rintro (h1 | h1 | h1 | h1)
          · exact .inl h1
          · exact .inr (.inl h1)
          · exact absurd (h1 ▸ h) nx
          · exact absurd (h1 ▸ h) ny
        · rintro (h1 | h1 | h1 | h1)
          · exact .inl h1
          · exact .inr (.inl h1)
          · simp only [Prod.mk.injEq] at h1; omega
          · simp only [Prod.mk.injEq] at h1; omega
      · rw [gx]
        exact ⟨fun _ => .inl (E.self u hu), fun _ => .inr (.inr (.inl rfl))⟩
      · rw [gy]
        exact ⟨fun _ => .inr (.inl (E.self v hv)), fun _ => .inr (.inr (.inr rfl))⟩
    · rw [hmz] at hno
      rcases (lives k).1 hk with h | rfl | rfl
      · rw [gold k h, mapold _ (olds k h)]; exact t k h
      · exact absurd (.inr (.inr (.inl rfl))) hno
      · exact absurd (.inr (.inr (.inr rfl))) hno

end Go.Proofs.Ytnpfagpgploolaa
