/- The document's own forest: Flagged. -/
import Derived.Test.YthdmajddmajjoaaRefI
namespace Go.Proofs.Ythdmajddmajjoaa
open Go.ChangeShapes Go.WideShapes Go.ChangeAt Go.RowKit
set_option linter.unusedVariables false

section
variable {w : World} {o : Nat → Nat} {R q room n M : Nat} {free : List Nat} {it : Nat → It} {S : Nat → List Nat} {pa : Nat} {vi vn vl : Value} {its : List It} {inL : List Nat} {ls : List Value} {LL : List (List Nat)}
theorem x_flag_out (x f : Int) (h : Rx w o R q room n M free it S pa vi vn vl its inL ls LL) (hb : hasB n free x = false) :
    Calls Try.prog 33 #[.pointer (some ⟨q, 0, none⟩), .int .i64 x, .int .i64 f] w fun e w' => e = .returned (.tuple #[.int .i64 0, .int .i64 31]) ∧ Below w.heap.size w w' := by
  have c1 := x_has x h
  rw [hb] at c1
  clear h
  go_enter Try.func33, Try.ntmps33
  go_wp2_with (go_at_call 48; refine c1.mono ?_; rintro e w1 ⟨rfl, rfl⟩)
  go_ret2
  exact ⟨rfl, Below.refl _ _⟩
theorem x_flag_bad (k : Nat) (f : Int) (h : Rx w o R q room n M free it S pa vi vn vl its inL ls LL) (hk : Live n free k) (hf : f < 0 ∨ 255 < f) :
    Calls Try.prog 33 #[.pointer (some ⟨q, 0, none⟩), .int .i64 (k : Nat), .int .i64 f] w fun e w' => e = .returned (.tuple #[.int .i64 0, .int .i64 1]) ∧ Below w.heap.size w w' := by
  have c1 := x_has (k : Int) h
  rw [hasB_nat hk] at c1
  clear h
  by_cases hf0 : f < 0
  · clear hf
    go_enter Try.func33, Try.ntmps33
    go_wp2_with (go_at_call 48; refine c1.mono ?_; rintro e w1 ⟨rfl, rfl⟩)
    go_ret2
    exact ⟨rfl, Below.refl _ _⟩
  · have hf1 : 255 < f := hf.resolve_left hf0
    clear hf
    go_enter Try.func33, Try.ntmps33
    go_wp2_with (go_at_call 48; refine c1.mono ?_; rintro e w1 ⟨rfl, rfl⟩)
    go_ret2
    exact ⟨rfl, Below.refl _ _⟩
def flagAns : List Nat → Value
  | [] => .tuple #[.int .i64 0, .int .i64 35]
  | b :: _ => .tuple #[.int .i64 (b : Nat), .int .i64 0]
/-- A: those that do not bear the flags; B: the rest. -/
theorem x_flag (k f : Nat) (A B : List Nat) (h : Rx w o R q room n M free it S pa vi vn vl its inL ls LL) (hk : Live n free k) (hf : f ≤ 255) (hmay : ∀ j, Live n free j → (it j).may) (hs : S k = A ++ B) (hA : ∀ j ∈ A, (it j).f &&& f = 0) (hB : ∀ b C, B = b :: C → (it b).f &&& f ≠ 0) :
    Calls Try.prog 33 #[.pointer (some ⟨q, 0, none⟩), .int .i64 (k : Nat), .int .i64 (f : Nat)] w fun e w' => e = .returned (flagAns B) ∧ Below w.heap.size w w' := by
  have c1 := x_has (k : Int) h
  rw [hasB_nat hk] at c1
  have c2 := x_of k h hk
  obtain ⟨g, cap, eg, a1, a2, hc⟩ := h.list hk
  rw [eg] at c2
  have hl := h.len hk
  have hmem := h.pl.mem k hk
  obtain ⟨d0, d1, d2, d3, hf4⟩ := h.blk.cells4
  obtain ⟨gi, ci, rfl, i1, i2, -, -, -⟩ := h.item hk
  have HI : Hid (∀ j (hj : j < (S k).length), w.cell? ⟨g, j, none⟩ = some (.int .i64 ((S k)[j] : Nat)) ∧ (S k)[j] ≤ n ∧ (it (S k)[j]).f ≤ 255 ∧ w.cell? ⟨gi, (S k)[j] * 3 + 2, none⟩ = some (.int .i64 ((it (S k)[j]).f : Nat))) := fun j hj => by
    have hx := (hmem _ (List.getElem_mem hj)).1
    obtain ⟨gi', ci', e1, -, -, -, -, i3⟩ := h.item hx
    injection e1 with e1 _ _
    injection e1 with e1
    injection e1 with e1 _ _
    subst e1
    exact ⟨hc j hj, hx.2.1, (hmay _ hx).2.2, i3⟩
  have HS : Hid (S k = A ++ B) := hs
  have HA : Hid (∀ j (hj : j < A.length), (it A[j]).f &&& f = 0) := fun j hj => hA _ (List.getElem_mem hj)
  have HB : Hid (∀ b C, B = b :: C → (it b).f &&& f ≠ 0) := hB
  have hlen : (S k).length = A.length + B.length := by rw [hs]; simp
  have HL : Hid ((S k).length = A.length + B.length) := hlen
  have hfI : ¬ ((255 : Int) < (f : Int)) := by omega
  clear h hc hmem hmay hk hs hA hB eg hlen
  generalize S k = l at *
  go_enter Try.func33, Try.ntmps33
  go_wp2_with fail
  refine c1.mono ?_
  rintro e w1 ⟨rfl, rfl⟩
  go_wp2_with fail
  refine c2.mono ?_
  rintro e w2 ⟨rfl, m, rfl⟩
  go_wp2
  go_loopw [9] (fun v wr => ∃ j : Nat, v = .int .i64 (j : Nat) ∧ j ≤ A.length ∧ ∃ m, wr = w1.drewN m) (fun v _ => A.length - (intOf v).toNat)
  case atStart => exact ⟨0, by go_num, by omega, m, rfl⟩
  case round =>
    obtain ⟨j, rfl, hj, m3, rfl⟩ := hrel
    by_cases hlt : j < A.length
    · have hjl : j < l.length := by have := HL.out; omega
      obtain ⟨t0, t1, t2, t3⟩ := HI.out j hjl
      have eA : l[j] = A[j] := by
        have e : l[j]? = A[j]? := by rw [HS.out, List.getElem?_append_left hlt]
        rw [List.getElem?_eq_getElem hjl, List.getElem?_eq_getElem hlt] at e
        exact Option.some.inj e
      have hz := HA.out j hlt
      rw [← eA] at hz
      generalize l[j] = z at *
      generalize (it z).f = y at *
      have hband : bits .and .i64 (y : Int) (f : Int) = 0 := by rw [and_nat y f t2 hf, hz]; rfl
      have hjI : (j : Int) < (l.length : Int) := by omega
      have hzI : (z : Int) < (n : Int) + 1 := by omega
      clear eA
      go_wp2
      go_quiet (fail)
      go_wp2
      go_roundw
      case rel => (try ((repeat apply Exists.intro); refine ⟨?_, rfl⟩)); exact ⟨j + 1, by go_num, by omega, _, rfl⟩
      case measure => simp [intOf]; omega
    · obtain rfl : j = A.length := by omega
      have hL := HL.out
      cases B with
      | nil =>
        have hnI : ¬ ((A.length : Int) < (l.length : Int)) := by simp at hL; omega
        go_wp2
        go_ret2
        exact ⟨rfl, bdrw _ _⟩
      | cons b C =>
        have hjl : A.length < l.length := by simp at hL; omega
        obtain ⟨t0, t1, t2, t3⟩ := HI.out A.length hjl
        have eA : l[A.length] = b := by
          have e : l[A.length]? = some b := by rw [HS.out]; simp
          rw [List.getElem?_eq_getElem hjl] at e
          exact Option.some.inj e
        rw [eA] at t0 t1 t2 t3
        have hz := HB.out b C rfl
        generalize (it b).f = y at *
        have hband : (bits .and .i64 (y : Int) (f : Int) != 0) = true := by
          rw [and_nat y f t2 hf]
          simp
          omega
        have hjI : (A.length : Int) < (l.length : Int) := by omega
        have hzI : (b : Int) < (n : Int) + 1 := by omega
        clear eA hL
        go_wp2
        go_quiet (fail)
        go_wp2
        go_ret2
        exact ⟨rfl, bdrw _ _⟩
end
end Go.Proofs.Ythdmajddmajjoaa
