/- A graph out of raw pairs. -/
import Derived.Test.YtanahbkkgppfnaaElv8
namespace Go.Proofs.Ytanahbkkgppfnaa
open Go.ChangeShapes Go.WideShapes Go.ChangeAt Go.RowKit
set_option linter.unusedVariables false

def i64 (x : Int) : Prop := -9223372036854775808 ≤ x ∧ x ≤ 9223372036854775807
/-- Pairs that came in, only read. -/
def ArgP (w : World) (o : Nat → Nat) (ao : Option Addr) (len : Nat) (f : Nat → Int × Int) : Prop :=
  ∀ j, j < len → ∃ b off, ao = some ⟨b, off, none⟩ ∧ b < w.heap.size ∧ o b = 0 ∧ (w.cell? ⟨b, off + j * 2, none⟩ = some (.int .i64 (f j).1) ∧ w.cell? ⟨b, off + j * 2 + 1, none⟩ = some (.int .i64 (f j).2)) ∧ i64 (f j).1 ∧ i64 (f j).2
theorem ArgP.step {I : Nat → Prop} {w w' : World} {o o' : Nat → Nat} {ao : Option Addr} {len : Nat} {f : Nat → Int × Int} (h : ArgP w o ao len f) (s : Step I w o w' o') (hi : ¬ I 0) : ArgP w' o' ao len f := by
  intro j hj
  obtain ⟨b, off, h1, h2, h3, ⟨c0, c1⟩, hb⟩ := h j hj
  have hc := fun k => s.cell h2 (by rw [h3]; exact hi) k
  exact ⟨b, off, h1, Nat.lt_of_lt_of_le h2 s.size, (s.lab b h2).trans h3, ⟨(hc _).trans c0, (hc _).trans c1⟩, hb⟩
/-- Edges as 'graph' makes them; k: how many pairs were looked at. -/
def GrE (n k : Nat) (es : List EdT) : Prop := (∀ x, x ∈ es → (0 ≤ x.u ∧ x.u < n) ∧ (0 ≤ x.v ∧ x.v < n) ∧ x.u ≠ x.v ∧ (10 ≤ x.id ∧ x.id < 10 + (k : Int)) ∧ x.wt = 0) ∧ es.Pairwise (fun a b => a.id < b.id)
theorem GrE.mono {n k k' : Nat} {es : List EdT} (h : GrE n k es) (hk : k ≤ k') : GrE n k' es :=
  ⟨fun x hx => by obtain ⟨a, b, c, d, e⟩ := h.1 x hx; exact ⟨a, b, c, ⟨d.1, by have := d.2; omega⟩, e⟩, h.2⟩
theorem GrE.snoc {n k u v : Nat} {es : List EdT} (h : GrE n k es) (hu : u < n) (hv : v < n) (huv : u ≠ v) : GrE n (k + 1) (es ++ [⟨10 + (k : Int), (u : Int), (v : Int), 0⟩]) := by
  refine ⟨fun x hx => ?_, ?_⟩
  · rcases List.mem_append.1 hx with q | q
    · exact (h.mono (Nat.le_succ k)).1 x q
    · simp only [List.mem_singleton] at q
      subst q
      exact ⟨⟨by simp only; omega, by simp only; omega⟩, ⟨by simp only; omega, by simp only; omega⟩, by simp only; omega, ⟨by simp only; omega, by simp only; omega⟩, rfl⟩
  · rw [List.pairwise_append]
    refine ⟨h.2, by simp, fun a ha b hb => ?_⟩
    simp only [List.mem_singleton] at hb
    subst hb
    exact (h.1 a ha).2.2.2.1.2
theorem GrE.ok {n k : Nat} {es : List EdT} (h : GrE n k es) (hk : k ≤ 1048576) : OkE n es := by
  intro j hj
  obtain ⟨a, b, c, d, e⟩ := h.1 _ (List.getElem_mem hj)
  refine ⟨⟨a, b, c, ⟨by have := d.1; omega, by have := d.2; omega⟩, by rw [e]; exact ⟨by decide, by decide⟩⟩, fun x hx => ?_⟩
  obtain ⟨i, hi, rfl⟩ := List.mem_take_iff_getElem.1 hx
  have := List.pairwise_iff_getElem.1 h.2 i j (by omega) hj (by omega)
  omega

/-- What 'graph' leaves. -/
def GraOut (w : World) (o : Nat → Nat) (lb n len most : Nat) (e : Ending) (w' : World) : Prop := ∃ v es o', e = .returned v ∧ Row w' o' lb 36 4 v es.length (eev es) ∧ es.length ≤ most ∧ GrE n len es ∧ Step (fun k => k = lb) w o w' o'
end Go.Proofs.Ytanahbkkgppfnaa
