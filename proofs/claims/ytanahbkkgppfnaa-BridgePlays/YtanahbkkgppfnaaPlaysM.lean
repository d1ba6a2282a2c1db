/- Both oracles of whatever graph: what they answer. -/
import Derived.Test.YtanahbkkgppfnaaRefOf
import Derived.Test.YtanahbkkgppfnaaOfBad2
import Derived.Test.YtanahbkkgppfnaaOf8
import Derived.Test.YtanahbkkgppfnaaNewW
namespace Go.Proofs.Ytanahbkkgppfnaa
open Go.ChangeShapes Go.WideShapes Go.ChangeAt Go.RowKit
set_option linter.unusedVariables false
set_option linter.unusedSimpArgs false

/-- Which error a graph gives. -/
def Vd (n : Int) (es : List EdT) (c : Int) : Prop := (c = 1 ∧ (n < 1 ∨ 64 < n ∨ 192 < es.length)) ∨ (c = 81 ∧ 1 ≤ n ∧ n ≤ 64 ∧ es.length ≤ 192 ∧ ¬ OkE n.toNat es) ∨ (c = 0 ∧ 1 ≤ n ∧ n ≤ 64 ∧ es.length ≤ 192 ∧ OkE n.toNat es)
theorem vd_ex (n : Int) (es : List EdT) : ∃ c, Vd n es c := by
  by_cases h : n < 1 ∨ 64 < n ∨ 192 < es.length
  · exact ⟨1, .inl ⟨rfl, h⟩⟩
  · by_cases k : OkE n.toNat es
    · exact ⟨0, .inr (.inr ⟨rfl, by omega, by omega, by omega, k⟩)⟩
    · exact ⟨81, .inr (.inl ⟨rfl, by omega, by omega, by omega, k⟩)⟩
theorem Vd.fine {n : Int} {es : List EdT} (h : Vd n es 0) : 1 ≤ n ∧ n ≤ 64 ∧ es.length ≤ 192 := by
  rcases h with ⟨h, _⟩ | ⟨h, _⟩ | ⟨_, h1, h2, h3, _⟩
  · exact absurd h (by decide)
  · exact absurd h (by decide)
  · exact ⟨h1, h2, h3⟩
/-- What the document's own gives. -/
def RefAll (w : World) (o : Nat → Nat) (L : Nat) (n : Int) (es : List EdT) (c : Int) (e : Ending) (w' : World) : Prop :=
  ∃ px o', e = .returned (.tuple #[px, .int .i64 c]) ∧ ((c ≠ 0 ∧ px = .pointer none) ∨ (c = 0 ∧ ∃ q B bl, px = .pointer (some ⟨q, 0, none⟩) ∧ Rf8 w' o' L q n.toNat B bl ∧ Ans n.toNat es B bl)) ∧ Step (RL L) w o w' o'
/-- What the program's gives. -/
def PrgAll (w : World) (o : Nat → Nat) (L : Nat) (n : Int) (es : List EdT) (c : Int) (e : Ending) (w' : World) : Prop :=
  ∃ px o', e = .returned (.tuple #[px, .int .i64 c]) ∧ ((c ≠ 0 ∧ px = .pointer none) ∨ (c = 0 ∧ ∃ q B bl, px = .pointer (some ⟨q, 0, none⟩) ∧ Or8 w' o' L q n.toNat B bl ∧ Ans n.toNat es B bl)) ∧ Step (WL L) w o w' o'
theorem VwE.form {w : World} {o : Nat → Nat} {i : Nat} {v : Value} {es : List EdT} (h : VwE w o i v es) : ∃ ao cap, v = .slice ao es.length cap := by
  obtain ⟨ao, cap, hv, _⟩ := h
  exact ⟨ao, cap, hv⟩
theorem refOf_all (w : World) (o : Nat → Nat) (L la : Nat) (n c : Int) (vl : Value) (es : List EdT) (h : VwE w o la vl es) (hn0 : -9223372036854775808 ≤ n) (hn9 : n ≤ 9223372036854775807) (hl : es.length ≤ 2000) (hla : la < L) (hc : Vd n es c) :
    Calls Try.prog 5 #[.int .i64 n, vl] w fun e w' => RefAll w o L n es c e w' := by
  rcases hc with ⟨rfl, q⟩ | ⟨rfl, q1, q2, q3, q4⟩ | ⟨rfl, q1, q2, q3, q4⟩
  · obtain ⟨ao, cap, rfl⟩ := h.form
    refine (refOf_arg w n ao es.length cap hn0 hn9 (by omega) q).mono ?_
    rintro e w' ⟨rfl, rfl⟩
    exact ⟨_, o, rfl, .inl ⟨by decide, rfl⟩, Step.refl _ _ _⟩
  · have hh := refOf_bad w o n.toNat la vl es h (by omega) (by omega) q3 q4
    rw [Int.toNat_of_nonneg (by omega)] at hh
    refine hh.mono ?_
    rintro e w' ⟨o', rfl, s⟩
    exact ⟨_, o', rfl, .inl ⟨by decide, rfl⟩, s.mono fun _ h => h.elim⟩
  · have hh := refOf_ok w o L n.toNat la vl es h (by omega) (by omega) q3 hla q4
    rw [Int.toNat_of_nonneg (by omega)] at hh
    refine hh.mono ?_
    rintro e w' ⟨q, o', B, bl, rfl, r, a, s⟩
    exact ⟨_, o', rfl, .inr ⟨rfl, q, B, bl, rfl, r, a⟩, s⟩
theorem of_all (w : World) (o : Nat → Nat) (L la : Nat) (n c : Int) (vl : Value) (es : List EdT) (h : VwE w o la vl es) (hn0 : -9223372036854775808 ≤ n) (hn9 : n ≤ 9223372036854775807) (hl : es.length ≤ 2000) (hla : la < L) (hc : Vd n es c) :
    Calls Try.prog 7 #[.int .i64 n, vl] w fun e w' => PrgAll w o L n es c e w' := by
  rcases hc with ⟨rfl, q⟩ | ⟨rfl, q1, q2, q3, q4⟩ | ⟨rfl, q1, q2, q3, q4⟩
  · obtain ⟨ao, cap, rfl⟩ := h.form
    refine (of_arg w n ao es.length cap hn0 hn9 (by omega) q).mono ?_
    rintro e w' ⟨rfl, rfl⟩
    exact ⟨_, o, rfl, .inl ⟨by decide, rfl⟩, Step.refl _ _ _⟩
  · have hh := of_bad w o L n.toNat la vl es h (by omega) (by omega) q3 q4
    rw [Int.toNat_of_nonneg (by omega)] at hh
    refine hh.mono ?_
    rintro e w' ⟨o', rfl, s⟩
    exact ⟨_, o', rfl, .inl ⟨by decide, rfl⟩, s.mono fun _ h => h.elim⟩
  · have hh := of_w newWalk_ok w o L n.toNat la vl es h (by omega) (by omega) q3 hla q4
    rw [Int.toNat_of_nonneg (by omega)] at hh
    refine hh.mono ?_
    rintro e w' ⟨q, o', B, bl, rfl, r, a, s⟩
    exact ⟨_, o', rfl, .inr ⟨rfl, q, B, bl, rfl, r, a⟩, s⟩
theorem Rf8.turn {w : World} {o : Nat → Nat} {L q n : Nat} {B : List Nat} {bl bl' : Nat → Nat} (h : Rf8 w o L q n B bl) (he : ∀ x, x < n → bl' x = bl x) : Rf8 w o L q n B bl' := by
  obtain ⟨vr, lI, gb, cb, h0, h1, h2, h3⟩ := h
  have e : natsF bl' n = natsF bl n := by
    unfold natsF
    refine List.map_congr_left fun x hx => ?_
    rw [he x (List.mem_range.1 hx)]
  exact ⟨vr, lI, gb, cb, h0, h1, h2, by rw [e]; exact h3⟩
/-- The first ones of a lent list. -/
theorem lent_vwe {w : World} {o : Nat → Nat} {lb g c : Nat} {es : List EdT} (R : Row w o lb 36 4 (.slice (some ⟨g, 0, none⟩) (es.length + 2) c) (es.length + 2) (eev (es ++ two8))) : VwE w o lb (.slice (some ⟨g, 0, none⟩) es.length c) es := by
  have h := R.cut es.length (by omega)
  rw [eev_append, List.take_append_of_le_length (by rw [eev_len]; omega), List.take_of_length_le (by rw [eev_len]; omega)] at h
  exact h.vwe
/-- Two oracles of one graph. -/
theorem pair8 {w : World} {o : Nat → Nat} {L M q p n : Nat} {es : List EdT} {B B' : List Nat} {bl bl' : Nat → Nat} (h1 : Or8 w o L q n B bl) (a1 : Ans n es B bl) (h2 : Rf8 w o M p n B' bl') (a2 : Ans n es B' bl') (hl : es.length ≤ 192) : Rf8 w o M p n B bl ∧ B.length ≤ 192 := by
  obtain ⟨e1, e2, _⟩ := a1.uniq a2
  subst e1
  exact ⟨h2.turn e2, by have := a1.len; omega⟩
end Go.Proofs.Ytanahbkkgppfnaa
