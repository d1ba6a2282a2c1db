/- What an oracle knows, and how it lies in memory. -/
import Derived.Test.YtanahbkkgppfnaaRight
import Derived.Test.YtanahbkkgppfnaaCln
namespace Go.Proofs.Ytanahbkkgppfnaa
open Go.ChangeShapes Go.WideShapes Go.ChangeAt Go.RowKit
set_option linter.unusedVariables false

/-- Edges that may all be. -/
def OkE (n : Nat) (es : List EdT) : Prop := ∀ k (hk : k < es.length), RightE n es[k] ∧ ∀ x, x ∈ es.take k → x.id ≠ es[k].id
/-- A walk is made (its proof is elsewhere). -/
def NewWalkOk : Prop := ∀ (w : World) (o : Nat → Nat) (L n la : Nat) (vl : Value) (es : List EdT), VwE w o la vl es → 1 ≤ n → n ≤ 64 → es.length ≤ 192 → la < L → (∀ x, x ∈ es → 0 ≤ x.u ∧ x.u < n ∧ 0 ≤ x.v ∧ x.v < n) →
    Calls Try.prog 18 #[.int .i64 (n : Nat), vl] w fun e w' => ∃ p o', e = .returned (.pointer (some ⟨p, 0, none⟩)) ∧ Wm w' o' L p n la es (st0 (ends es)) ∧ Step (WL L) w o w' o'
/-- What an oracle answers. -/
def Ans (n : Nat) (es : List EdT) (B : List Nat) (bl : Nat → Nat) : Prop :=
  B.Pairwise (· < ·) ∧ (∀ i, i ∈ B ↔ ∃ e, e < es.length ∧ idn es e = i ∧ ¬ Firm (ends es) e) ∧ (∀ x, x < n → bl x ≤ x ∧ Jn (ends es) (Firm (ends es)) (bl x) x) ∧ (∀ x y, x < n → y < n → Jn (ends es) (Firm (ends es)) x y → bl x = bl y)
/-- An oracle in memory. -/
def Or8 (w : World) (o : Nat → Nat) (L q n : Nat) (B : List Nat) (bl : Nat → Nat) : Prop :=
  ∃ vr gb cb, Blk w o (L + 9) q (.cells #[vr, .slice (some ⟨gb, 0, none⟩) n cb] 58 (0, 0)) ∧ Row w o (L + 4) 3 1 vr B.length (intsL B) ∧ Row w o (L + 5) 3 1 (.slice (some ⟨gb, 0, none⟩) n cb) n (natsF bl n)
theorem Or8.step {I : Nat → Prop} {w w' : World} {o o' : Nat → Nat} {L q n : Nat} {B : List Nat} {bl : Nat → Nat} (h : Or8 w o L q n B bl) (s : Step I w o w' o') (hi : ∀ k, WL L k → ¬ I k) : Or8 w' o' L q n B bl := by
  obtain ⟨vr, gb, cb, h1, h2, h3⟩ := h
  exact ⟨vr, gb, cb, h1.step s (hi _ ⟨by omega, by omega⟩), h2.step s (hi _ ⟨by omega, by omega⟩), h3.step s (hi _ ⟨by omega, by omega⟩)⟩
def OfOut (w : World) (o : Nat → Nat) (L n : Nat) (es : List EdT) (e : Ending) (w' : World) : Prop :=
  ∃ q o' B bl, e = .returned (.tuple #[.pointer (some ⟨q, 0, none⟩), .int .i64 0]) ∧ Or8 w' o' L q n B bl ∧ Ans n es B bl ∧ Step (WL L) w o w' o'
theorem Ans.of {n : Nat} {es : List EdT} {br : List Nat} {bl : Nat → Nat} {B : List Nat} (h : Told8 (ends es) n br bl) (ok : OkE n es) (hp : B.Perm (br.map (idn es))) (hs : B.Pairwise (· ≤ ·)) : Ans n es B bl := by
  obtain ⟨h1, h2, h3, h4⟩ := h
  have hinj : ∀ i j, i < es.length → j < es.length → idn es i = idn es j → i = j := by
    have key : ∀ i j, i < j → j < es.length → idn es i ≠ idn es j := fun i j hij hj q => by
      obtain ⟨r1, r2⟩ := ok j hj
      have r3 := (ok i (by omega)).1
      have : es[i] ∈ es.take j := by
        rw [List.mem_take_iff_getElem]
        exact ⟨i, by omega, rfl⟩
      have hne := r2 _ this
      have e1 : idn es i = es[i].id.toNat := by simp [idn, show i < es.length by omega]
      have e2 : idn es j = es[j].id.toNat := by simp [idn, hj]
      rw [e1, e2] at q
      have a1 := r1.2.2.2.1.1
      have a2 := r3.2.2.2.1.1
      exact hne (by omega)
    intro i j hi hj q
    rcases Nat.lt_trichotomy i j with z | z | z
    · exact absurd q (key i j z hj)
    · exact z
    · exact absurd q.symm (key j i z hi)
  have hm : ∀ i, i ∈ B ↔ ∃ e, e < es.length ∧ idn es e = i ∧ ¬ Firm (ends es) e := fun i => by
    rw [hp.mem_iff, List.mem_map]
    constructor
    · rintro ⟨e, he, rfl⟩
      have := (h2 e).1 he
      rw [ends_len] at this
      exact ⟨e, this.1, rfl, this.2⟩
    · rintro ⟨e, he, rfl, hf⟩
      exact ⟨e, (h2 e).2 ⟨by rw [ends_len]; exact he, hf⟩, rfl⟩
  have hnd : (br.map (idn es)).Nodup := by
    rw [List.Nodup, List.pairwise_map]
    refine h1.imp_of_mem fun {a b} ha hb hab q => hab (hinj a b ?_ ?_ q)
    · have := ((h2 a).1 ha).1; rw [ends_len] at this; exact this
    · have := ((h2 b).1 hb).1; rw [ends_len] at this; exact this
  have hnB : B.Nodup := hp.nodup_iff.2 hnd
  refine ⟨?_, hm, h3, h4⟩
  exact (hs.and hnB).imp fun {a b} q => by have := q.1; have := q.2; omega

end Go.Proofs.Ytanahbkkgppfnaa
