/- Sets as rows of 64 bools. -/
import Derived.Test.YtmpkhbblakfglaaDoorAllC
import Derived.Test.YtmpkhbblakfglaaDoorLaw9
import Derived.Deep.MidRow
import Derived.Deep.RegionHeld3
namespace Go.Proofs.YtmpkhbblakfglaaDoor
open Go.ChangeShapes Go.WideShapes Go.ChangeAt Go.RowKit Go.Maps
set_option linter.unusedVariables false
set_option linter.unusedSimpArgs false

/-- The 64 bools of a set. -/
def b64 (x : Nat) : List Value := (List.range 64).map fun i => .bool (x.testBit i)
/-- The set as a value. -/
def av (x : Nat) : Value := .agg (b64 x).toArray
theorem b64_len (x : Nat) : (b64 x).length = 64 := by simp [b64]
theorem b64_get (x : Nat) {i : Nat} (h : i < 64) : (b64 x)[i]? = some (.bool (x.testBit i)) := by simp [b64, h]
theorem b64_one (x : Nat) : ∀ v ∈ b64 x, v.oneCell' = true := fun v hv => by
  simp only [b64, List.mem_map] at hv
  obtain ⟨i, _, rfl⟩ := hv
  rfl
/-- With a number, or without it. -/
def put1 (x n : Nat) (on : Bool) : Nat := if on then x ||| bt n else mns x (bt n)
theorem put1_lt {x n : Nat} (hx : x < top64) (hn : n < 64) (on : Bool) : put1 x n on < top64 := by
  unfold put1
  split
  · exact or_lt hx (bt_lt hn)
  · exact mns_lt hx
theorem put1_bit {x n : Nat} (hx : x < top64) (hn : n < 64) (on : Bool) (i : Nat) : (put1 x n on).testBit i = if i = n then on else x.testBit i := by
  unfold put1
  cases on with
  | true =>
    rw [if_pos rfl, Nat.testBit_or, bt_bit]
    by_cases e : n = i
    · subst e; simp
    · have : ¬ i = n := fun q => e q.symm
      simp [e, this]
  | false =>
    rw [if_neg (by decide), mns_bit' x _ hx (bt_lt hn), bt_bit]
    by_cases e : n = i
    · subst e; simp
    · have : ¬ i = n := fun q => e q.symm
      simp [e, this]
theorem b64_set {x n : Nat} (hx : x < top64) (hn : n < 64) (on : Bool) : (b64 x).set n (.bool on) = b64 (put1 x n on) := by
  apply List.ext_getElem?
  intro i
  rw [List.getElem?_set]
  by_cases hi : i < 64
  · rw [b64_get _ hi, b64_get _ hi, put1_bit hx hn]
    by_cases e : n = i
    · subst e; simp [b64_len, hn]
    · have : ¬ i = n := fun q => e q.symm
      simp [e, this]
  · have h1 : (b64 (put1 x n on))[i]? = none := List.getElem?_eq_none (by rw [b64_len]; omega)
    have h2 : (b64 x)[i]? = none := List.getElem?_eq_none (by rw [b64_len]; omega)
    rw [h1, h2, if_neg (by omega)]
theorem b64_inj {x y : Nat} (hx : x < top64) (hy : y < top64) (h : b64 x = b64 y) : x = y := ext64 hx hy fun i hi => by
  have := b64_get x hi
  rw [h, b64_get y hi] at this
  simpa using this.symm
theorem infoSet9 : (Tryd.prog.info? 57).map (fun i => (i.zero, i.size)) = some (some (.agg (b64 0).toArray), 64) := by kernel_rfl
theorem sizeSet9 (x : Nat) : (Tryd.prog.info? 57).map (·.size) = some (b64 x).length := by
  rw [b64_len]
  kernel_rfl
end Go.Proofs.YtmpkhbblakfglaaDoor
