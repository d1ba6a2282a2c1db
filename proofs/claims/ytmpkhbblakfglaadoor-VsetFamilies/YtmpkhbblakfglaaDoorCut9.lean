/- A slice cut at its end, at its beginning; what the pieces hold. No program. -/
import Derived.Test.YtmpkhbblakfglaaDoorNameC
import Derived.Test.YtmpkhbblakfglaaDoorApp2
import Derived.Deep.MidRow
namespace Go.Proofs.YtmpkhbblakfglaaDoor
open Go.ChangeShapes Go.WideShapes Go.ChangeAt Go.RowKit Go.Maps
set_option linter.unusedVariables false
set_option linter.unusedSimpArgs false

theorem wordsA_get (k : Nat) (h : k < 27) : wordsA[k]? = some (.string (word9 k)) := by
  match k, h with
  | 0, _ => rfl
  | 1, _ => rfl
  | 2, _ => rfl
  | 3, _ => rfl
  | 4, _ => rfl
  | 5, _ => rfl
  | 6, _ => rfl
  | 7, _ => rfl
  | 8, _ => rfl
  | 9, _ => rfl
  | 10, _ => rfl
  | 11, _ => rfl
  | 12, _ => rfl
  | 13, _ => rfl
  | 14, _ => rfl
  | 15, _ => rfl
  | 16, _ => rfl
  | 17, _ => rfl
  | 18, _ => rfl
  | 19, _ => rfl
  | 20, _ => rfl
  | 21, _ => rfl
  | 22, _ => rfl
  | 23, _ => rfl
  | 24, _ => rfl
  | 25, _ => rfl
  | 26, _ => rfl
  | n + 27, h => exact absurd h (by omega)
/-- What IsName gives. -/
def NameOut (s : ByteArray) (w : World) (e : Ending) (w' : World) : Prop := ∃ b, e = .returned (.bool b) ∧ (b = true ↔ isNm s) ∧ Below w.heap.size w w'
theorem NameOut.no {s : ByteArray} {w w' : World} (h : ¬ isNm s) (hb : Below w.heap.size w w') : NameOut s w (.returned (.bool false)) w' := ⟨false, rfl, by simpa using h, hb⟩
theorem NameOut.yes {s : ByteArray} {w w' : World} (h : isNm s) (hb : Below w.heap.size w w') : NameOut s w (.returned (.bool true)) w' := ⟨true, rfl, by simpa using h, hb⟩
set_option maxRecDepth 100000 in
theorem words_c (w : World) : Calls Tryd.prog 47 #[] w fun e w' => ∃ g, e = .returned (.slice (some ⟨g, 0, none⟩) 27 27) ∧ (∀ k, k < 27 → w'.cell? ⟨g, k, none⟩ = some (.string (word9 k))) ∧ Below w.heap.size w w' := by
  have hb : (w.alloc (.cells wordsA 9)).heap[w.heap.size]? = some (.cells wordsA 9 (0, 0)) := heap_alloc_new w _
  have HF : Hid ((∀ k, k < 27 → (w.alloc (.cells wordsA 9)).cell? ⟨w.heap.size, k, none⟩ = some (.string (word9 k))) ∧ Below w.heap.size w (w.alloc (.cells wordsA 9))) := ⟨fun k hk => by rw [cell_of_row _ w.heap.size k _ _ (0, 0) hb]; exact wordsA_get k hk, bal (b0 w) _⟩
  clear hb
  go_enter Tryd.func47, Tryd.ntmps47
  go_wp2
  go_ret
  exact ⟨w.heap.size, rfl, HF.out.1, HF.out.2⟩
set_option maxRecDepth 100000 in
set_option maxHeartbeats 4000000 in
theorem refName_c (s : ByteArray) (w : World) (hs : s.size ≤ maxLen) :
    Calls Tryd.prog 39 #[.string s] w fun e w' => NameOut s w e w' := by
  unfold maxLen at hs
  by_cases h0 : s.size = 0
  · have fin : ¬ isNm s := fun h => by have := h.1; omega
    have h1 : (s.size : Int) < 1 := by omega
    clear h0
    go_enter Tryd.func39, Tryd.ntmps39
    go_wp2
    go_ret
    exact NameOut.no fin (b0 _)
  · have h1 : ¬ (s.size : Int) < 1 := by omega
    by_cases h12 : 12 < s.size
    · have fin : ¬ isNm s := fun h => by have := h.2.1; omega
      have h12I : (12 : Int) < (s.size : Int) := by omega
      go_enter Tryd.func39, Tryd.ntmps39
      go_wp2
      go_ret
      exact NameOut.no fin (b0 _)
    · have h12I : ¬ (12 : Int) < (s.size : Int) := by omega
      have hpos : 0 < s.size := by omega
      have hposI : (0 : Int) < (s.size : Int) := by omega
      have hb0 : s[0].toNat < 256 := UInt8.toNat_lt _
      by_cases hl0 : 97 ≤ s[0].toNat ∧ s[0].toNat ≤ 122
      · have q1 : ¬ (s[0].toNat : Int) < 97 := by omega
        have q2 : ¬ (122 : Int) < (s[0].toNat : Int) := by omega
        go_enter Tryd.func39, Tryd.ntmps39
        go_wp2_with fail
        go_loopw [3] (fun v wr => ∃ k : Nat, k ≤ s.size ∧ v = .int .i64 (k : Nat) ∧ (∀ i (h : i < s.size), i < k → inner9 s[i].toNat) ∧ wr = w) (fun v _ => s.size - (intOf v).toNat)
        case atStart => exact ⟨0, by omega, by go_num, fun i _ h2 => by omega, rfl⟩
        case round =>
          obtain ⟨k, hk, rfl, hin, rfl⟩ := hrel
          by_cases hlt : k < s.size
          · have hkI : (k : Int) < (s.size : Int) := by omega
            have hbk : s[k].toNat < 256 := UInt8.toNat_lt _
            have step : inner9 s[k].toNat → ∀ i (h : i < s.size), i < k + 1 → inner9 s[i].toNat := fun hx i h h2 => by
              by_cases e : i = k
              · subst e; exact hx
              · exact hin i h (by omega)
            by_cases hl : 97 ≤ s[k].toNat ∧ s[k].toNat ≤ 122
            · have RL := step (.inl hl)
              have a1 : ¬ (s[k].toNat : Int) < 97 := by omega
              have a2 : ¬ (122 : Int) < (s[k].toNat : Int) := by omega
              clear step hin
              go_wp2
              go_roundw
              case rel => (try ((repeat apply Exists.intro); refine ⟨?_, rfl⟩)); exact ⟨k + 1, by omega, by go_num, RL, by trivial⟩
              case measure => simp [intOf]; omega
            · by_cases hd : 48 ≤ s[k].toNat ∧ s[k].toNat ≤ 57
              · have RL := step (.inr (.inl hd))
                have a1 : (s[k].toNat : Int) < 97 := by omega
                have a2 : ¬ (s[k].toNat : Int) < 48 := by omega
                have a3 : ¬ (57 : Int) < (s[k].toNat : Int) := by omega
                clear step hin
                go_wp2
                go_roundw
                case rel => (try ((repeat apply Exists.intro); refine ⟨?_, rfl⟩)); exact ⟨k + 1, by omega, by go_num, RL, by trivial⟩
                case measure => simp [intOf]; omega
              · by_cases hu : s[k].toNat = 95
                · have RL := step (.inr (.inr hu))
                  have HU : Hid (s[k].toNat = 95) := hu
                  have a1 : (s[k].toNat : Int) < 97 := by omega
                  have a2 : ¬ (s[k].toNat : Int) < 48 := by omega
                  have a3 : (57 : Int) < (s[k].toNat : Int) := by omega
                  have a4 : (s[k].toNat : Int) = 95 := by omega
                  clear hu
                  clear step hin
                  go_wp2
                  go_roundw
                  case rel => (try ((repeat apply Exists.intro); refine ⟨?_, rfl⟩)); exact ⟨k + 1, by omega, by go_num, RL, by trivial⟩
                  case measure => simp [intOf]; omega
                · have fin : ¬ isNm s := fun h => by
                    have hq : inner9 s[k].toNat := by
                      by_cases e : k = 0
                      · subst e; exact .inl (h.2.2.1 hpos)
                      · exact h.2.2.2.1 k hlt (by omega)
                    rcases hq with h | h | h
                    · exact hl h
                    · exact hd h
                    · exact hu h
                  have a5 : ¬ (s[k].toNat : Int) = 95 := by omega
                  by_cases h48 : s[k].toNat < 48
                  · have a1 : (s[k].toNat : Int) < 97 := by omega
                    have a2 : (s[k].toNat : Int) < 48 := by omega
                    clear step hin
                    go_wp2
                    go_ret
                    exact NameOut.no fin (b0 _)
                  · by_cases h97 : s[k].toNat < 97
                    · have a1 : (s[k].toNat : Int) < 97 := by omega
                      have a2 : ¬ (s[k].toNat : Int) < 48 := by omega
                      have a3 : (57 : Int) < (s[k].toNat : Int) := by omega
                      clear step hin
                      go_wp2
                      go_ret
                      exact NameOut.no fin (b0 _)
                    · have a1 : ¬ (s[k].toNat : Int) < 97 := by omega
                      have a6 : (122 : Int) < (s[k].toNat : Int) := by omega
                      have a2 : ¬ (s[k].toNat : Int) < 48 := by omega
                      have a3 : (57 : Int) < (s[k].toNat : Int) := by omega
                      clear step hin
                      go_wp2
                      go_ret
                      exact NameOut.no fin (b0 _)
          · obtain rfl : k = s.size := by omega
            go_wp2_with fail
            refine (words_c _).mono ?_
            rintro e w2 ⟨g, rfl, hcw, B2⟩
            have HIN : Hid (∀ i (h : i < s.size), inner9 s[i].toNat) := fun i h => hin i h h
            clear hin
            go_wp2_with fail
            go_loopw [6] (fun v wr => ∃ k : Nat, k ≤ 27 ∧ v = .int .i64 (k : Nat) ∧ (∀ j, j < k → word9 j ≠ s) ∧ wr = w2) (fun v _ => 27 - (intOf v).toNat)
            case atStart => exact ⟨0, by omega, by go_num, fun j hj => by omega, rfl⟩
            case round =>
              obtain ⟨j, hj, rfl, hnw, rfl⟩ := hrel
              by_cases hjl : j < 27
              · have hjI : (j : Int) < 27 := by omega
                have cj := hcw j hjl
                by_cases he : word9 j = s
                · have fin : ¬ isNm s := fun h => h.2.2.2.2 ⟨j, hjl, he.symm⟩
                  rw [he] at cj
                  clear he hnw hcw
                  go_wp2
                  go_ret
                  exact NameOut.no fin B2
                · have hin' : ∀ i, i < j + 1 → word9 i ≠ s := fun i hi => by
                    by_cases e : i = j
                    · subst e; exact he
                    · exact hnw i (by omega)
                  have heb := str_ne he
                  have HCW : Hid (∀ k, k < 27 → wr.cell? ⟨g, k, none⟩ = some (.string (word9 k))) := hcw
                  generalize word9 j = t at cj he heb
                  clear hnw hcw
                  go_wp2
                  go_roundw
                  case rel => (try ((repeat apply Exists.intro); refine ⟨?_, rfl⟩)); exact ⟨j + 1, by omega, by go_num, hin', by trivial⟩
                  case measure => simp [intOf]; omega
              · obtain rfl : j = 27 := by omega
                have fin : isNm s := ⟨hpos, by omega, fun _ => hl0, fun i h1 _ => HIN.out i h1, fun ⟨i, h1, h2⟩ => hnw i h1 h2.symm⟩
                clear hnw hcw
                go_wp2
                go_ret
                exact NameOut.yes fin B2
      · have fin : ¬ isNm s := fun h => hl0 (h.2.2.1 hpos)
        by_cases h97 : s[0].toNat < 97
        · have q1 : (s[0].toNat : Int) < 97 := by omega
          go_enter Tryd.func39, Tryd.ntmps39
          go_wp2
          go_ret
          exact NameOut.no fin (b0 _)
        · have q1 : ¬ (s[0].toNat : Int) < 97 := by omega
          have q2 : (122 : Int) < (s[0].toNat : Int) := by omega
          go_enter Tryd.func39, Tryd.ntmps39
          go_wp2
          go_ret
          exact NameOut.no fin (b0 _)
end Go.Proofs.YtmpkhbblakfglaaDoor
namespace Go.Proofs.YtmpkhbblakfglaaDoor
open Go.ChangeShapes Go.WideShapes Go.ChangeAt Go.RowKit
set_option linter.unusedVariables false
set_option linter.unusedSimpArgs false
theorem elem_of {P : Program} {t e : TypeId} (ht : P.underlying t = some (.slice e)) : P.elem t = e := by simp [Program.elem, ht]
theorem wpList_cutHi {P : Program} {ops : Array Oper} {rest : List Oper} {op : Oper} {a : Act} {w : World} {Q : Exit → Act → World → Prop} (hg : op.guard = none) (t : TypeId) (x h : Operand) (ho : op.op = .slice t x none (some h) none)
    (e : TypeId) (ht : P.underlying t = some (.slice e)) (i : TypeInfo) (hi : P.info? e = some i) (ao : Option Addr) (len cap k : Nat) (hx : a.eval x = .slice ao len cap) (hh : a.eval h = .int .i64 (k : Nat)) (hle : k ≤ cap)
    (hK : wpList P ops Q rest (a.put op.dst (.slice ao k cap)) w) : wpList P ops Q (op :: rest) a w := by
  have he := elem_of ht
  have ht2 : P.underlying t = some (.slice (P.elem t)) := by rw [he]; exact ht
  have hr := run_slice_h (P := P) w t ao len cap ht2 .i64 (k : Int) (by omega) (by omega)
  rw [he] at hr
  have hm : ao.map (fun x : Addr => x.add 0) = ao := by cases ao <;> simp [Addr.add]
  refine wpList_plain hg fun K h2 => ?_
  unfold Oper.wp execOp
  simp only [ho, Sem.run_bind, run_sliceAt_slice w t _ _ _ _ ht2, Option.map_some, Option.map_none, hx, hh, hr, sizeOf, typeInfo, run_program, hi, Sem.run_pure, Result.andThen_ok, sliced, Nat.zero_mul, hm, ite_self, Int.toNat_natCast, Nat.sub_zero]
  exact h2 _ _ hK
/-- Where a piece without its first k elements begins. -/
def offA (ao : Option Addr) (cap k size : Nat) : Option Addr := if cap = k then ao else ao.map (·.add (k * size))
theorem wpList_cutLo {P : Program} {ops : Array Oper} {rest : List Oper} {op : Oper} {a : Act} {w : World} {Q : Exit → Act → World → Prop} (hg : op.guard = none) (t : TypeId) (x h : Operand) (ho : op.op = .slice t x (some h) none none)
    (e : TypeId) (ht : P.underlying t = some (.slice e)) (i : TypeInfo) (hi : P.info? e = some i) (size : Nat) (hz : i.size = size) (ao : Option Addr) (len cap k : Nat) (hx : a.eval x = .slice ao len cap) (hh : a.eval h = .int .i64 (k : Nat)) (hle : k ≤ len)
    (hK : wpList P ops Q rest (a.put op.dst (.slice (offA ao cap k size) (len - k) (cap - k))) w) : wpList P ops Q (op :: rest) a w := by
  subst hz
  have he := elem_of ht
  have ht2 : P.underlying t = some (.slice (P.elem t)) := by rw [he]; exact ht
  have hr := run_slice_l (P := P) w t ao len cap ht2 .i64 (k : Int) (by omega) (by omega)
  rw [he] at hr
  refine wpList_plain hg fun K h2 => ?_
  unfold Oper.wp execOp
  simp only [ho, Sem.run_bind, run_sliceAt_slice w t _ _ _ _ ht2, Option.map_some, Option.map_none, hx, hh, hr, sizeOf, typeInfo, run_program, hi, Sem.run_pure, Result.andThen_ok, sliced, Int.toNat_natCast]
  exact h2 _ _ hK
theorem Row.newsHi {w : World} {o : Nat → Nat} {i : Nat} {e : TypeId} {size : Nat} {ao : Option Addr} {n cap : Nat} {xs : List Value} (h : Row w o i e size (.slice ao n cap) n xs) (k : Nat) (hk : k ≤ n) : 0 < k → ∃ ad, ao = some ad ∧ ∀ j u, (xs.take (k * size))[j]? = some u → w.cell? (ad.add j) = some u := fun h0 => by
  obtain ⟨g, cap', hv, _, _, _, _, hcell, _⟩ := h.pos (by omega)
  simp only [Value.slice.injEq, true_and] at hv
  refine ⟨_, hv.1, fun j u hu => ?_⟩
  have hj : j < k * size := by have := (List.getElem?_eq_some_iff.1 hu).1; rw [List.length_take] at this; omega
  have hle : k * size ≤ n * size := Nat.mul_le_mul_right _ hk
  rw [List.getElem?_take_of_lt hj] at hu
  rw [Addr.add_mid, Nat.zero_add, hcell j (by omega)]
  exact hu
theorem Row.newsLo {w : World} {o : Nat → Nat} {i : Nat} {e : TypeId} {size : Nat} {ao : Option Addr} {n cap : Nat} {xs : List Value} (h : Row w o i e size (.slice ao n cap) n xs) (k : Nat) (hk : k ≤ n) : 0 < n - k → ∃ ad, offA ao cap k size = some ad ∧ ∀ j u, (xs.drop (k * size))[j]? = some u → w.cell? (ad.add j) = some u := fun h0 => by
  obtain ⟨g, cap', hv, _, hc, _, _, hcell, _⟩ := h.pos (by omega)
  simp only [Value.slice.injEq, true_and] at hv
  obtain ⟨rfl, rfl⟩ := hv
  have hne : ¬ cap = k := by omega
  refine ⟨⟨g, k * size, none⟩, by simp [offA, hne, Addr.add_mid], fun j u hu => ?_⟩
  have hl := h.len
  rw [List.getElem?_drop] at hu
  have hj : k * size + j < n * size := by have := (List.getElem?_eq_some_iff.1 hu).1; omega
  rw [Addr.add_mid, hcell _ hj]
  exact hu
end Go.Proofs.YtmpkhbblakfglaaDoor
