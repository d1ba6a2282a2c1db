/- Tours: a new node; a new step; where a node stands; a cut ahead of it, behind it. -/
import Derived.Test.YtnpfagpgploolaaTo
import Derived.Test.YtnpfagpgploolaaSeqs
import Derived.Deep.RegionHeld
import Derived.Deep.RegionHeld3
namespace Go.Proofs.Ytnpfagpgploolaa
open Go.ChangeShapes Go.WideShapes Go.ChangeAt Go.RowKit Go.Maps
set_option linter.unusedVariables false

theorem Tm.wf {w : World} {o : Nat → Nat} {L p n N : Nat} {free : List Nat} {it : Nat → It} {S : Nat → List Nat} {g : Nat → Nat × Nat} {f : Nat → Nat → Nat} {ms : Nat} {sts : List Nat} (h : Tm w o L p n N free it S g f ms sts) : WF (n + 2 * (n - 1)) N free := by
  obtain ⟨pf, bs, cap, bm, bg, h1, h2, h3, h4, h5⟩ := h
  exact h2.wf

theorem place_any (w : World) (o : Nat → Nat) (L p n N : Nat) (free : List Nat) (it : Nat → It) (S : Nat → List Nat) (g : Nat → Nat × Nat) (f : Nat → Nat → Nat) (ms : Nat) (sts : List Nat) (a : Nat) (A B : List Nat) (h : Tm w o L p n N free it S g f ms sts) (hl : Live N free a) (hA : S a = A ++ a :: B) :
    Calls Try.prog 46 #[.pointer (some ⟨p, 0, none⟩), .int .i64 a] w fun e w' => e = .returned (.int .i64 A.length) ∧ ∃ o', Tm w' o' L p n N free it S g f ms sts ∧ Step (FL L) w o w' o' := by
  obtain ⟨pf, bs, cap, bm, bg, h1, h2, h3, h4, h5⟩ := h
  obtain ⟨c0, c1, c2, c3⟩ := h1.cells
  have hc := rankInF w o L pf _ N free it S a A B h2 hl hA
  go_enter Try.func46, Try.ntmps46
  go_wp2_with fail
  refine hc.mono ?_
  rintro e w1 ⟨rfl, o1, F1, S1⟩
  have R := Tm.fo h1 h3 h4 h5 S1 F1
  clear h1 h2 h3 h4 h5 hc F1
  go_wp2
  go_ret
  exact ⟨rfl, o1, R, S1⟩

theorem cutAhead_any (w : World) (o : Nat → Nat) (L p n N : Nat) (free : List Nat) (it : Nat → It) (S : Nat → List Nat) (g : Nat → Nat × Nat) (f : Nat → Nat → Nat) (ms : Nat) (sts : List Nat) (a : Nat) (A B : List Nat) (h : Tm w o L p n N free it S g f ms sts) (hl : Live N free a) (hA : S a = A ++ a :: B) :
    Calls Try.prog 47 #[.pointer (some ⟨p, 0, none⟩), .int .i64 a] w fun e w' => e = .returned (.int .i64 (A.headD 0 : Nat)) ∧ ∃ o', Tm w' o' L p n N free it (cut2 S A (a :: B)) g f ms sts ∧ Step (FL L) w o w' o' := by
  obtain ⟨pf, bs, cap, bm, bg, h1, h2, h3, h4, h5⟩ := h
  obtain ⟨c0, c1, c2, c3⟩ := h1.cells
  have hnd := h2.nodup hl
  rw [hA] at hnd
  cases A with
  | nil =>
    have hc := atInF w o L pf _ N free it S a 0 a h2 hl (by rw [hA]; rfl)
    have hS : cut2 S [] (a :: B) = S := cut2_nilX (fun k hk => by rw [← List.nil_append (a :: B), ← hA] at hk ⊢; exact (h2.mem hl hk).2)
    rw [hS]
    have haa : ((a : Int) == (a : Int)) = true := by simp
    go_enter Try.func47, Try.ntmps47
    go_wp2_with fail
    refine hc.mono ?_
    rintro e w1 ⟨rfl, o1, F1, S1⟩
    have R := Tm.fo h1 h3 h4 h5 S1 F1
    clear h1 h2 h3 h4 h5 hc F1
    go_wp2
    go_ret
    exact ⟨rfl, o1, R, S1⟩
  | cons c A =>
    have hne : c ≠ a := fun e => by simp [e] at hnd
    have hc := atInF w o L pf _ N free it S a 0 c h2 hl (by rw [hA]; rfl)
    have hb : ((c : Int) == (a : Int)) = false := by simp only [beq_eq_false_iff_ne, ne_eq]; omega
    have hA2 := hA
    have HC : Hid (∀ wx ox, Step (FL L) w o wx ox → wx.cell? ⟨p, 0, none⟩ = some (.pointer (some ⟨pf, 0, none⟩))) := fun wx ox s => (h1.step s (fun h => by have := h.2; omega)).cells.1
    go_enter Try.func47, Try.ntmps47
    go_wp2_with fail
    refine hc.mono ?_
    rintro e w1 ⟨rfl, o1, F1, S1⟩
    have e0 := HC.out _ _ S1
    have hc2 := splitInF w1 o1 L pf _ N free it S a (c :: A) B F1 hl hA2
    rw [splitS_eq] at hc2
    clear hc c0 c1 c2 c3 F1
    go_wp2_with fail
    refine hc2.mono ?_
    rintro e w2 ⟨rfl, o2, F2, S2⟩
    have S3 := S1.trans S2
    have R := Tm.fo h1 h3 h4 h5 S3 F2
    clear h1 h2 h3 h4 h5 hc2 F2 S1 S2 e0 HC
    go_wp2
    go_ret
    exact ⟨rfl, o2, R, S3⟩

set_option maxRecDepth 100000 in
theorem cutBehind_any (w : World) (o : Nat → Nat) (L p n N : Nat) (free : List Nat) (it : Nat → It) (S : Nat → List Nat) (g : Nat → Nat × Nat) (f : Nat → Nat → Nat) (ms : Nat) (sts : List Nat) (a : Nat) (A B : List Nat) (h : Tm w o L p n N free it S g f ms sts) (hl : Live N free a) (hA : S a = A ++ a :: B) :
    Calls Try.prog 42 #[.pointer (some ⟨p, 0, none⟩), .int .i64 a] w fun e w' => e = .returned (.int .i64 (B.headD 0 : Nat)) ∧ ∃ o', Tm w' o' L p n N free it (cut2 S (A ++ [a]) B) g f ms sts ∧ Step (FL L) w o w' o' := by
  have sd : Step (FL L) w o w.drew o := (Step.refl _ _ _).drew
  have hpl := place_any w.drew o L p n N free it S g f ms sts a A B (h.quiet ((Step.refl _ _ _).drew)) hl hA
  obtain ⟨pf, bs, cap, bm, bg, h1, h2, h3, h4, h5⟩ := h
  obtain ⟨c0, c1, c2, c3⟩ := h1.cells
  have hnd := h2.nodup hl
  have hlen := h2.len hl
  rw [hA] at hnd hlen
  simp only [List.length_append, List.length_cons] at hlen
  have HC : Hid (∀ wx ox, Step (FL L) w o wx ox → wx.cell? ⟨p, 0, none⟩ = some (.pointer (some ⟨pf, 0, none⟩))) := fun wx ox s => (h1.step s (fun h => by have := h.2; omega)).cells.1
  have ha1 : IntKind.i64.wrap ((A.length : Int) + 1) = (A.length : Int) + 1 := by rw [IntKind.wrap_i64]; omega
  have HF : Hid (∀ wx ox, Tm wx ox L p n N free it S g f ms sts → wx.cell? ⟨p, 0, none⟩ = some (.pointer (some ⟨pf, 0, none⟩)) → Fo wx ox L pf (n + 2 * (n - 1)) N free it S) := fun wx ox T e => by
    obtain ⟨pf', bs', cap', bm', bg', k1, k2, k3, k4, k5⟩ := T
    have := k1.cells.1
    rw [e] at this
    simp at this
    rw [this]; exact k2
  cases B with
  | nil =>
    have HAT : Hid (∀ wx ox, Fo wx ox L pf (n + 2 * (n - 1)) N free it S → Calls Try.prog 69 #[.pointer (some ⟨pf, 0, none⟩), .int .i64 a, .int .i64 ((A.length : Int) + 1)] wx fun e w' => e = .returned (.tuple #[.int .i64 0, .int .i64 34]) ∧ ∃ o', Fo w' o' L pf (n + 2 * (n - 1)) N free it S ∧ Step (FL L) wx ox w' o') := fun wx ox Fx => atBigF wx ox L pf _ N free it S a _ Fx hl (by rw [hA]; simp)
    have hS : cut2 S (A ++ [a]) [] = S := cut2_nilY (fun k hk => by rw [← hA] at hk ⊢; exact (h2.mem hl hk).2)
    rw [hS]
    go_enter Try.func42, Try.ntmps42
    go_wp2_with fail
    go_region_held (fun wx => wx.cell? ⟨p, 0, none⟩ = some (.pointer (some ⟨pf, 0, none⟩))) (first | (with_reducible exact HC.out _ _ s2) | (with_reducible exact HC.out _ _ s1) | (with_reducible exact HC.out _ _ sd)) ((first
      | (go_at_call 46; refine hpl.mono ?_; rintro e w1 ⟨rfl, o1, T1, s1'⟩; have s1 := sd.trans s1'; have d1 := HC.out _ _ s1; have F1 := HF.out _ _ T1 d1)
      | (go_at_call 69; refine (HAT.out _ _ F1).mono ?_; rintro e w2 ⟨rfl, o2, F2, s2'⟩; have s2 := s1.trans s2'; have d2 := HC.out _ _ s2)))
    all_goals
      have R := Tm.fo h1 h3 h4 h5 s2 F2
      clear h1 h2 h3 h4 h5 F1 F2 T1 hpl
      go_wp2
      go_ret
      exact ⟨rfl, o2, R, s2⟩
  | cons b B =>
    have HAT : Hid (∀ wx ox, Fo wx ox L pf (n + 2 * (n - 1)) N free it S → Calls Try.prog 69 #[.pointer (some ⟨pf, 0, none⟩), .int .i64 a, .int .i64 ((A.length : Int) + 1)] wx fun e w' => e = .returned (.tuple #[.int .i64 b, .int .i64 0]) ∧ ∃ o', Fo w' o' L pf (n + 2 * (n - 1)) N free it S ∧ Step (FL L) wx ox w' o') := fun wx ox Fx => by
      have := atInF wx ox L pf _ N free it S a (A.length + 1) b Fx hl (by rw [hA, List.getElem?_append_right (by omega)]; simp)
      rw [show (((A.length + 1 : Nat)) : Int) = (A.length : Int) + 1 by omega] at this
      exact this
    have hb : b ∈ S a := by rw [hA]; simp
    have hbl := (h2.mem hl hb)
    have HSP : Hid (∀ wx ox, Fo wx ox L pf (n + 2 * (n - 1)) N free it S → Calls Try.prog 70 #[.pointer (some ⟨pf, 0, none⟩), .int .i64 b] wx fun e w' => e = .returned (.int .i64 0) ∧ ∃ o', Fo w' o' L pf (n + 2 * (n - 1)) N free it (cut2 S (A ++ [a]) (b :: B)) ∧ Step (FL L) wx ox w' o') := fun wx ox Fx => by
      have := splitInF wx ox L pf _ N free it S b (A ++ [a]) B Fx hbl.1 (by rw [hbl.2, hA]; simp)
      rw [splitS_eq] at this
      exact this
    clear hbl hb
    go_enter Try.func42, Try.ntmps42
    go_wp2_with fail
    go_region_held (fun wx => wx.cell? ⟨p, 0, none⟩ = some (.pointer (some ⟨pf, 0, none⟩))) (first | (with_reducible exact HC.out _ _ s2) | (with_reducible exact HC.out _ _ s1) | (with_reducible exact HC.out _ _ sd)) ((first
      | (go_at_call 46; refine hpl.mono ?_; rintro e w1 ⟨rfl, o1, T1, s1'⟩; have s1 := sd.trans s1'; have d1 := HC.out _ _ s1; have F1 := HF.out _ _ T1 d1)
      | (go_at_call 69; refine (HAT.out _ _ F1).mono ?_; rintro e w2 ⟨rfl, o2, F2, s2'⟩; have s2 := s1.trans s2'; have d2 := HC.out _ _ s2)))
    all_goals
      have hc2 := HSP.out _ _ F2
      clear F1 F2 T1 hpl
      go_wp2_with fail
      refine hc2.mono ?_
      rintro e w3 ⟨rfl, o3, F3, s3⟩
      have s4 := s2.trans s3
      have R := Tm.fo h1 h3 h4 h5 s4 F3
      clear h1 h2 h3 h4 h5 F3 hc2
      go_wp2
      go_ret
      exact ⟨rfl, o3, R, s4⟩

end Go.Proofs.Ytnpfagpgploolaa
