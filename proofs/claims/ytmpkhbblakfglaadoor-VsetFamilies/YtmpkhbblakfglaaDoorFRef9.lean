/- The document's own families: names and sets side by side in two slices. -/
import Derived.Test.YtmpkhbblakfglaaDoorRefF9
import Derived.Test.YtmpkhbblakfglaaDoorNamesC
import Derived.Test.YtmpkhbblakfglaaDoorApp2
import Derived.Test.YtmpkhbblakfglaaDoorPurgeC
namespace Go.Proofs.YtmpkhbblakfglaaDoor
open Go.ChangeShapes Go.WideShapes Go.ChangeAt Go.RowKit Go.Maps
set_option linter.unusedVariables false
set_option linter.unusedSimpArgs false

/-- Sets one behind the other. -/
def setsL (xs : List Nat) : List Value := xs.flatMap b64
theorem setsL_len (xs : List Nat) : (setsL xs).length = xs.length * 64 := by
  induction xs with
  | nil => rfl
  | cons x r ih =>
    have : setsL (x :: r) = b64 x ++ setsL r := rfl
    rw [this, List.length_append, b64_len, ih, List.length_cons]; omega
theorem setsL_app (xs ys : List Nat) : setsL (xs ++ ys) = setsL xs ++ setsL ys := by simp [setsL]
theorem setsL_take (xs : List Nat) (k : Nat) (h : k ≤ xs.length) : (setsL xs).take (k * 64) = setsL (xs.take k) := by
  have e : setsL xs = setsL (xs.take k) ++ setsL (xs.drop k) := by rw [← setsL_app, List.take_append_drop]
  have hl : (setsL (xs.take k)).length = k * 64 := by rw [setsL_len, List.length_take, Nat.min_eq_left h]
  rw [e, ← hl, List.take_left']
  rfl
theorem setsL_drop (xs : List Nat) (k : Nat) (h : k ≤ xs.length) : (setsL xs).drop (k * 64) = setsL (xs.drop k) := by
  have e : setsL xs = setsL (xs.take k) ++ setsL (xs.drop k) := by rw [← setsL_app, List.take_append_drop]
  have hl : (setsL (xs.take k)).length = k * 64 := by rw [setsL_len, List.length_take, Nat.min_eq_left h]
  rw [e, ← hl, List.drop_left']
  rfl
theorem setsL_get (xs : List Nat) (i j : Nat) (hi : i < xs.length) (hj : j < 64) : (setsL xs)[i * 64 + j]? = (b64 (xs.getD i 0))[j]? := by
  have h1 : (setsL xs)[i * 64 + j]? = ((setsL xs).drop (i * 64))[j]? := by rw [List.getElem?_drop]
  rw [h1, setsL_drop xs i (by omega), List.drop_eq_getElem_cons hi]
  show (b64 xs[i] ++ setsL _)[j]? = _
  rw [List.getElem?_append_left (by rw [b64_len]; exact hj)]
  simp [List.getD, List.getElem?_eq_getElem hi]
theorem setsL_set (xs : List Nat) (i j : Nat) (hi : i < xs.length) (hj : j < 64) (hx : xs.getD i 0 < top64) : (setsL xs).set (i * 64 + j) (.bool false) = setsL (xs.set i (mns (xs.getD i 0) (bt j))) := by
  have hg : xs.getD i 0 = xs[i] := by simp [List.getD, List.getElem?_eq_getElem hi]
  rw [hg] at hx ⊢
  have e : setsL xs = setsL (xs.take i) ++ (b64 xs[i] ++ setsL (xs.drop (i + 1))) := by
    have := List.take_append_drop i xs
    rw [List.drop_eq_getElem_cons hi] at this
    have t := setsL_app (xs.take i) (xs[i] :: xs.drop (i + 1))
    rw [this] at t
    exact t
  have hl : (setsL (xs.take i)).length = i * 64 := by rw [setsL_len, List.length_take, Nat.min_eq_left (by omega)]
  rw [e, List.set_append_right _ _ (by omega), hl, Nat.add_sub_cancel_left, List.set_append_left _ _ (by rw [b64_len]; exact hj), b64_set hx hj false, List.set_eq_take_append_cons_drop, if_pos hi, setsL_app]
  rfl
theorem setsL_one (xs : List Nat) : ∀ v ∈ setsL xs, v.oneCell' = true := fun v hv => by
  simp only [setsL, List.mem_flatMap] at hv
  obtain ⟨x, _, h⟩ := hv
  exact b64_one x v h
theorem strsL_len (l : List ByteArray) : (strsL l).length = l.length := by simp [strsL]
theorem strsL_one (l : List ByteArray) : ∀ v ∈ strsL l, v.oneCell' = true := fun v hv => by
  simp only [strsL, List.mem_map] at hv
  obtain ⟨s, _, rfl⟩ := hv
  rfl
theorem infoSet64 : (Tryd.prog.info? 57).map (fun i => (i.zero, i.size, i.bytes)) = some (some (.agg (b64 0).toArray), 64, 64) := by kernel_rfl

/-- A family of the document's: its names, its sets; a, b: the labels of both slices. -/
structure RF (w : World) (o : Nat → Nat) (L p : Nat) (a b : Nat) (ao : Option Addr) (ca : Nat) (so : Option Addr) (cs m : Nat) (NL : List ByteArray) (xs : List Nat) : Prop where
  blk : Blk w o L p (.cells #[.slice ao m ca, .slice so m cs] 31 (0, 0))
  nr : Row w o a 9 1 (.slice ao m ca) m (strsL NL)
  sr : Row w o b 57 64 (.slice so m cs) m (setsL xs)
  la : a = L + 1 ∨ a = L + 3
  lb : b = L + 2 ∨ b = L + 4
  ln : NL.length = m
  lx : xs.length = m
theorem RF.step {I : Nat → Prop} {w w' : World} {o o' : Nat → Nat} {L p a b : Nat} {ao : Option Addr} {ca : Nat} {so : Option Addr} {cs m : Nat} {NL : List ByteArray} {xs : List Nat} (h : RF w o L p a b ao ca so cs m NL xs) (s : Step I w o w' o') (hi : ∀ k, L ≤ k → k ≤ L + 4 → ¬ I k) : RF w' o' L p a b ao ca so cs m NL xs :=
  ⟨h.blk.step s (hi _ (by omega) (by omega)), h.nr.step s (hi _ (by have := h.la; omega) (by have := h.la; omega)), h.sr.step s (hi _ (by have := h.lb; omega) (by have := h.lb; omega)), h.la, h.lb, h.ln, h.lx⟩
theorem Blk.cells2 {w : World} {o : Nat → Nat} {i b : Nat} {a0 a1 : Value} {t : TypeId} (h : Blk w o i b (.cells #[a0, a1] t (0, 0))) :
    w.cell? ⟨b, 0, none⟩ = some a0 ∧ w.cell? ⟨b, 1, none⟩ = some a1 ∧ ∀ j, w.frozen? ⟨b, j, none⟩ = false := by
  refine ⟨?_, ?_, fun j => frozen_of_row w b j _ t h.1⟩ <;> simp [cell_of_row w b _ _ t (0, 0) h.1]
theorem RF.name {w : World} {o : Nat → Nat} {L p a b : Nat} {ao : Option Addr} {ca : Nat} {so : Option Addr} {cs m : Nat} {NL : List ByteArray} {xs : List Nat} (h : RF w o L p a b ao ca so cs m NL xs) (k : Nat) (hk : k < m) : ∃ g, ao = some ⟨g, 0, none⟩ ∧ w.cell? ⟨g, k, none⟩ = some (.string (NL.getD k ⟨#[]⟩)) := by
  have hl := h.ln
  obtain ⟨g, cap, hv, hc, _⟩ := h.nr.str9 hl k (by omega)
  simp only [Value.slice.injEq] at hv
  refine ⟨g, hv.1, ?_⟩
  rw [hc]
  simp [List.getD, List.getElem?_eq_getElem (show k < NL.length by omega)]
theorem RF.set {w : World} {o : Nat → Nat} {L p a b : Nat} {ao : Option Addr} {ca : Nat} {so : Option Addr} {cs m : Nat} {NL : List ByteArray} {xs : List Nat} (h : RF w o L p a b ao ca so cs m NL xs) (k : Nat) (hk : k < m) : ∃ g, so = some ⟨g, 0, none⟩ ∧ w.rangeAt g (k * 64) (b64 (xs.getD k 0)) ∧ (∀ j, w.frozen? ⟨g, j, none⟩ = false) ∧ g < w.heap.size ∧ o g = b ∧ m ≤ cs := by
  have hl := h.lx
  obtain ⟨g, cap, hv, hgb, hc, hm, hlt, hcell, hfr⟩ := h.sr.pos (by omega)
  simp only [Value.slice.injEq, true_and] at hv
  obtain ⟨rfl, rfl⟩ := hv
  refine ⟨g, rfl, fun j v hv => ?_, hfr, hlt, hgb, hc⟩
  have hj : j < 64 := by have := (List.getElem?_eq_some_iff.1 hv).1; rwa [b64_len] at this
  rw [hcell (k * 64 + j) (by omega), setsL_get xs k j (by omega) hj]
  exact hv

set_option maxHeartbeats 1000000 in
theorem place_c (w : World) (o : Nat → Nat) (L p a b : Nat) (ao : Option Addr) (ca : Nat) (so : Option Addr) (cs m : Nat) (NL : List ByteArray) (xs : List Nat) (s : ByteArray) (h : RF w o L p a b ao ca so cs m NL xs) (hm : m ≤ 100000) :
    Calls Tryd.prog 40 #[.pointer (some ⟨p, 0, none⟩), .string s] w fun e w' => ∃ r : Int, e = .returned (.int .i64 r) ∧ w' = w ∧ ((r = -1 ∧ s ∉ NL) ∨ ∃ k : Nat, r = k ∧ k < m ∧ NL.getD k ⟨#[]⟩ = s) := by
  have hc0 := h.blk.cells2
  obtain ⟨c0, _, _⟩ := hc0
  have HR : Hid (RF w o L p a b ao ca so cs m NL xs) := h
  have hmc : m ≤ ca ∧ ca ≤ maxLen := by have := h.nr.cap; omega
  unfold maxLen at hmc
  obtain ⟨hm1, hm2⟩ := hmc
  clear h
  go_enter Tryd.func40, Tryd.ntmps40
  go_wp2
  go_loopw [5] (fun v wr => ∃ k : Nat, k ≤ m ∧ v = .int .i64 (k : Nat) ∧ (∀ j, j < k → NL.getD j ⟨#[]⟩ ≠ s) ∧ wr = w) (fun v _ => m - (intOf v).toNat)
  case atStart => exact ⟨0, by omega, by go_num, fun j hj => by omega, rfl⟩
  case round =>
    obtain ⟨k, hk, rfl, hin, rfl⟩ := hrel
    by_cases hlt : k < m
    · obtain ⟨g, rfl, cg⟩ := HR.out.name k hlt
      have hkI : (k : Int) < (m : Int) := by omega
      by_cases he : NL.getD k ⟨#[]⟩ = s
      · have HE : Hid (NL.getD k ⟨#[]⟩ = s) := he
        rw [he] at cg
        clear he
        go_wp2
        go_ret
        exact ⟨k, rfl, rfl, .inr ⟨k, rfl, hlt, HE.out⟩⟩
      · have hin' : ∀ j, j < k + 1 → NL.getD j ⟨#[]⟩ ≠ s := fun j hj => by
          by_cases e : j = k
          · subst e; exact he
          · exact hin j (by omega)
        have heb := str_ne he
        generalize NL.getD k ⟨#[]⟩ = t at cg he heb
        clear hin
        go_wp2
        go_roundw
        case rel => (try ((repeat apply Exists.intro); refine ⟨?_, rfl⟩)); exact ⟨k + 1, by omega, by go_num, hin', by trivial⟩
        case measure => simp [intOf]; omega
    · obtain rfl : k = m := by omega
      have hno : s ∉ NL := fun hs => by
        obtain ⟨j, hj, e⟩ := List.getElem_of_mem hs
        have hl := HR.out.ln
        exact hin j (by omega) (by simp [List.getD, List.getElem?_eq_getElem hj, e])
      clear hin
      go_wp2
      go_ret
      exact ⟨-1, rfl, rfl, .inl ⟨rfl, hno⟩⟩
end Go.Proofs.YtmpkhbblakfglaaDoor
