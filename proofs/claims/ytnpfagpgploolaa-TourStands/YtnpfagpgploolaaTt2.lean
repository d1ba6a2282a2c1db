/- Tours in plain terms: what is refused; a cut. -/
import Derived.Test.YtnpfagpgploolaaTt
namespace Go.Proofs.Ytnpfagpgploolaa
open Go.ChangeShapes Go.WideShapes Go.ChangeAt Go.RowKit Go.Maps
set_option linter.unusedVariables false

theorem link_same_t (w : World) (o : Nat → Nat) (L p n : Nat) (Y : Nat → List (Nat × Nat)) (D : Nat × Nat → It) (u v : Nat) (T : Tt w o L p n Y D) (hu : u < n) (hv : v < n) (he : Y u = Y v) :
    Calls Try.prog 14 #[.pointer (some ⟨p, 0, none⟩), .int .i64 u, .int .i64 v] w fun e w' => e = .returned (.int .i64 41) ∧ ∃ o', Tt w' o' L p n Y D ∧ Step (TL L) w o w' o' := by
  have hc := same_t w o L p n Y D u v T hu hv
  rw [decide_eq_true he] at hc
  clear he
  go_enter Try.func14, Try.ntmps14
  go_wp2_with fail
  refine hc.mono ?_
  rintro e w1 ⟨rfl, o1, T1, s1⟩
  clear hc T
  go_wp2
  go_ret
  exact ⟨rfl, o1, T1, s1⟩

theorem cut_none_t (w : World) (o : Nat → Nat) (L p n : Nat) (Y : Nat → List (Nat × Nat)) (D : Nat × Nat → It) (u v : Nat) (T : Tt w o L p n Y D) (hu : u < n) (hv : v < n) (hno : ¬ (u ≠ v ∧ (u, v) ∈ Y u)) :
    Calls Try.prog 16 #[.pointer (some ⟨p, 0, none⟩), .int .i64 u, .int .i64 v] w fun e w' => e = .returned (.int .i64 42) ∧ ∃ o', Tt w' o' L p n Y D ∧ Step (TL L) w o w' o' := by
  have T0 := T
  obtain ⟨N, free, it, S, g, f, ms, T, la, t, E, hn⟩ := T
  have hf : f u v = 0 := Classical.byContradiction fun h => hno ((la.has t T.sq hn.2 hu hv).1 h)
  have hc := edge_none w o L p n N free it S g f ms u v T hn.2 hu hv hf
  clear T la t E hf hno
  go_enter Try.func16, Try.ntmps16
  go_wp2_with fail
  refine hc.mono ?_
  rintro e w1 ⟨rfl, hw⟩
  obtain rfl : w = w1 := hw.symm
  clear hc
  go_wp2
  go_ret
  exact ⟨rfl, o, T0, Step.refl _ _ _⟩

theorem setS_map_out {N : Nat} {free : List Nat} {S : Nat → List Nat} {X : List Nat} {k : Nat} (h : k ∉ X) : setS S X k = S k := setS_out h

theorem cut_t (w : World) (o : Nat → Nat) (L p n : Nat) (Y : Nat → List (Nat × Nat)) (D : Nat × Nat → It) (u v a b : Nat) (A M B : List (Nat × Nat)) (T : Tt w o L p n Y D) (hu : u < n) (hv : v < n) (huv : u ≠ v) (hw : (a = u ∧ b = v) ∨ (a = v ∧ b = u)) (he : Y u = A ++ (a, b) :: (M ++ (b, a) :: B)) :
    Calls Try.prog 16 #[.pointer (some ⟨p, 0, none⟩), .int .i64 u, .int .i64 v] w fun e w' => e = .returned (.int .i64 0) ∧ ∃ o', Tt w' o' L p n (setY (setY Y M) (A ++ B)) D ∧ Step (TL L) w o w' o' := by
  obtain ⟨N, free, it, S, g, f, ms, T, la, t, E, hn⟩ := T
  have q := T.sq
  have wf := T.wf
  have hab : a ≠ b := by rcases hw with ⟨rfl, rfl⟩ | ⟨rfl, rfl⟩; exact huv; exact huv.symm
  have hs : (a, b) ∈ Y u := by rw [he]; simp
  have han : a < n := by rcases hw with ⟨rfl, rfl⟩ | ⟨rfl, rfl⟩; exact hu; exact hv
  have hbn : b < n := by rcases hw with ⟨rfl, rfl⟩ | ⟨rfl, rfl⟩; exact hv; exact hu
  have eY : Y a = Y u := (E.one u hu _ hs).2.2.1
  have hea : Y a = A ++ (a, b) :: (M ++ (b, a) :: B) := by rw [eY, he]
  have c := E.cu han hab hea
  obtain ⟨h2, E'⟩ := E.cut han hab hea
  have lu := (la.stop u hu).1
  have em := t.at la hu
  rw [he] at em
  obtain ⟨A', R1, hS, hA', hR1⟩ := List.map_eq_append_iff.1 em
  obtain ⟨x1, R2, rfl, g1, hR2⟩ := List.map_eq_cons_iff.1 hR1
  obtain ⟨M', R3, rfl, hM', hR3⟩ := List.map_eq_append_iff.1 hR2
  obtain ⟨x2, B', rfl, g2, hB'⟩ := List.map_eq_cons_iff.1 hR3
  have l1 := q.mem _ lu x1 (by rw [hS]; simp)
  have l2 := q.mem _ lu x2 (by rw [hS]; simp)
  have hS1 : S x1 = A' ++ x1 :: (M' ++ x2 :: B') := by rw [l1.2, hS]
  have f1 : f a b = x1 := by have := la.back x1 l1.1 (by rw [g1]; exact hab); rw [g1] at this; exact this
  have f2 : f b a = x2 := by have := la.back x2 l2.1 (by rw [g2]; exact hab.symm); rw [g2] at this; exact this
  have n12 : x1 ≠ x2 := fun e => by rw [e, g2] at g1; simp only [Prod.mk.injEq] at g1; omega
  have hlive : ∀ j, Live N (free ++ [x1] ++ [x2]) j ↔ Live N free j ∧ j ≠ x1 ∧ j ≠ x2 := fun j => by rw [Live.drop, Live.drop, and_assoc]
  refine (cut_in w o L p n N free it S g f ms u v a b x1 x2 A' M' B' T hn.2 hu hv huv hw f1 f2 l1.1 l2.1 hS1 g1 g2).mono ?_
  rintro e w' ⟨rfl, o', T', s⟩
  have wf' := T'.wf
  have e2 : ms - 1 - 1 = ms - 2 := by omega
  rw [e2] at T'
  refine ⟨rfl, o', ⟨N, free ++ [x1] ++ [x2], it, _, g, _, ms - 2, T', ⟨fun w hw => ?_, fun k hk => la.rng k ((hlive k).1 hk).1, fun k hk he => la.only k ((hlive k).1 hk).1 he, fun k hk he => ?_, fun x y hx hy hf => ?_, fun k hk => la.item k ((hlive k).1 hk).1, ?_⟩, ?_, E', hn⟩, s⟩
  · obtain ⟨p1, p2⟩ := la.stop w hw
    refine ⟨(hlive _).2 ⟨p1, fun e => ?_, fun e => ?_⟩, p2⟩
    · rw [e, g1] at p2; simp only [Prod.mk.injEq] at p2; omega
    · rw [e, g2] at p2; simp only [Prod.mk.injEq] at p2; omega
  · obtain ⟨q1, q2, q3⟩ := (hlive k).1 hk
    have := la.back k q1 he
    unfold upd2
    rw [if_neg (fun e => q3 (by rw [← this, e.1, e.2, f2])), if_neg (fun e => q2 (by rw [← this, e.1, e.2, f1]))]
    exact this
  · unfold upd2 at hf ⊢
    by_cases e1 : x = b ∧ y = a
    · rw [if_pos e1] at hf; exact absurd rfl hf
    · rw [if_neg e1] at hf ⊢
      by_cases e3 : x = a ∧ y = b
      · rw [if_pos e3] at hf; exact absurd rfl hf
      · rw [if_neg e3] at hf ⊢
        obtain ⟨p1, p2, p3⟩ := la.edge x y hx hy hf
        refine ⟨p1, (hlive _).2 ⟨p2, fun e => ?_, fun e => ?_⟩, p3⟩
        · rw [e, g1] at p3; simp only [Prod.mk.injEq] at p3; exact e3 ⟨p3.1.symm, p3.2.symm⟩
        · rw [e, g2] at p3; simp only [Prod.mk.injEq] at p3; exact e1 ⟨p3.1.symm, p3.2.symm⟩
  · have := la.many
    have hle := len_le_of_nodup N _ wf'.nodup (fun j hj => wf'.mem j hj)
    simp only [List.length_append, List.length_cons, List.length_nil] at hle ⊢
    omega
  · have hM2 : M'.map g = M := hM'
    have hAB : (A' ++ B').map g = A ++ B := by rw [List.map_append, hA', hB']
    have hmemS : ∀ k, k ∈ S (u + 1) ↔ k ∈ M' ∨ k ∈ A' ++ B' ∨ k = x1 ∨ k = x2 := fun k => by
      rw [hS]; simp only [List.mem_append, List.mem_cons]
      constructor
      · rintro (h | h | h | h | h) <;> simp [h]
      · rintro (h | (h | h) | h | h) <;> simp [h]
    have liv : ∀ k ∈ S (u + 1), Live N free k := fun k hk => (q.mem _ lu k hk).1
    have inM : ∀ k, Live N free k → (k ∈ M' ↔ g k ∈ M) := fun k hk => by
      rw [← hM2]
      constructor
      · exact fun h => List.mem_map.2 ⟨k, h, rfl⟩
      · intro h
        obtain ⟨j, hj, e⟩ := List.mem_map.1 h
        rw [← la.inj (liv j ((hmemS j).2 (.inl hj))) hk e]; exact hj
    have inR : ∀ k, Live N free k → (k ∈ A' ++ B' ↔ g k ∈ A ++ B) := fun k hk => by
      rw [← hAB]
      constructor
      · exact fun h => List.mem_map.2 ⟨k, h, rfl⟩
      · intro h
        obtain ⟨j, hj, e⟩ := List.mem_map.1 h
        rw [← la.inj (liv j ((hmemS j).2 (.inr (.inl hj)))) hk e]; exact hj
    have stM : ∀ k, Live N free k → k ≠ x1 → k ≠ x2 → (((g k).1, (g k).1) ∈ M → g k ∈ M) := fun k hk n1 n2 h => by
      have hYk : Y (g k).1 = Y u := by rw [← eY]; exact (E.iff (la.rng k hk).1 han).1 ((c.mem _).2 (.inl h))
      have hkS : g k ∈ Y a := by rw [eY, ← hYk, ← t k hk]; exact List.mem_map.2 ⟨k, q.self k hk, rfl⟩
      rcases (c.mem _).1 hkS with x | x | x | x
      · exact x
      · exact absurd (c.clR _ x).1 (c.apart _ h)
      · exact absurd (la.inj hk l1.1 (x.trans g1.symm)) n1
      · exact absurd (la.inj hk l2.1 (x.trans g2.symm)) n2
    have stR : ∀ k, Live N free k → k ≠ x1 → k ≠ x2 → (((g k).1, (g k).1) ∈ A ++ B → g k ∈ A ++ B) := fun k hk n1 n2 h => by
      have hYk : Y (g k).1 = Y u := by rw [← eY]; exact (E.iff (la.rng k hk).1 han).1 ((c.mem _).2 (.inr (.inl h)))
      have hkS : g k ∈ Y a := by rw [eY, ← hYk, ← t k hk]; exact List.mem_map.2 ⟨k, q.self k hk, rfl⟩
      rcases (c.mem _).1 hkS with x | x | x | x
      · exact absurd h (c.apart _ (c.clM _ x).1)
      · exact x
      · exact absurd (la.inj hk l1.1 (x.trans g1.symm)) n1
      · exact absurd (la.inj hk l2.1 (x.trans g2.symm)) n2
    unfold cutF
    refine Tq.set hAB (fun k hk => ?_) (fun k hk hno => ?_)
    · obtain ⟨q1, q2, q3⟩ := (hlive k).1 hk
      rw [inR k q1]
      exact ⟨fun h => (c.clR _ h).1, stR k q1 q2 q3⟩
    · obtain ⟨q1, q2, q3⟩ := (hlive k).1 hk
      rw [setS_out (by simp [q2]), setS_out (by simp [q3])]
      by_cases e : k ∈ M'
      · rw [setS_in e, hM2, setY_in (c.clM _ ((inM k q1).1 e)).1]
      · rw [setS_out e, setY_out (fun h => e ((inM k q1).2 (stM k q1 q2 q3 h))), t k q1]

end Go.Proofs.Ytnpfagpgploolaa
