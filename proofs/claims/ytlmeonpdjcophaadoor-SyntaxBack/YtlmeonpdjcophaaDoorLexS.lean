/- The steps of package lex's cut, in plain lists. No program. -/
import Derived.Test.YtlmeonpdjcophaaDoorLexP
import Derived.Test.YtlmeonpdjcophaaDoorArBase
namespace Go.Proofs.YtlmeonpdjcophaaDoor
open Go.ChangeShapes Go.WideShapes Go.ChangeAt Go.RowKit
set_option linter.unusedVariables false

theorem ext_list (s : ByteArray) (a b : Nat) : (s.extract a b).data.toList = (s.data.toList.drop a).take (b - a) := by
  rw [ByteArray.data_extract, Array.toList_extract, List.extract_eq_take_drop]
theorem ext_eq (s : ByteArray) (a b : Nat) : s.extract a b = ⟨((s.data.toList.drop a).take (b - a)).toArray⟩ := by
  rw [← ext_list, back_text]
theorem take_more (l : List UInt8) (a pos : Nat) (h : pos < l.length) (ha : a ≤ pos) : (l.drop a).take (pos + 1 - a) = (l.drop a).take (pos - a) ++ [l[pos]] := by
  have e : pos + 1 - a = (pos - a) + 1 := by omega
  rw [e, List.take_add_one]
  congr 1
  rw [List.getElem?_drop]
  have e2 : a + (pos - a) = pos := by omega
  rw [e2, List.getElem?_eq_getElem h]
  rfl
theorem drop_at (l : List UInt8) (pos : Nat) (h : pos < l.length) : l.drop pos = l[pos] :: l.drop (pos + 1) := List.drop_eq_getElem_cons h
/-- A rune is taken. -/
theorem run_yes {l : List UInt8} {ps : List Pc} {k a pos : Nat} {X : Res} (h : pos < l.length) (ha : a ≤ pos) (ht : tks k ((l.drop a).take (pos - a)) (l[pos]).toNat = true)
    (J : runP ps (lexL k ((l.drop a).take (pos - a)) a pos (l.drop pos)) = X) : runP ps (lexL k ((l.drop a).take (pos + 1 - a)) a (pos + 1) (l.drop (pos + 1))) = X := by
  rw [drop_at l pos h, lexL_yes ht] at J
  rw [take_more l a pos h ha]
  exact J
/-- A rune is not taken. -/
theorem run_no {l : List UInt8} {ps : List Pc} {k a pos r q : Nat} {X : Res} (h : pos < l.length) (hr : (r = (l[pos]).toNat ∧ q = pos + 1) ∨ (128 ≤ (l[pos]).toNat ∧ 128 ≤ r)) (ht : tks k ((l.drop a).take (pos - a)) r = false)
    (J : runP ps (lexL k ((l.drop a).take (pos - a)) a pos (l.drop pos)) = X) : runP (ps ++ [⟨k, (l.drop a).take (pos - a), a⟩]) (lexL (cls r) ((l.drop pos).take (q - pos)) pos q (l.drop q)) = X := by
  rw [runP_append]
  rw [drop_at l pos h] at J
  rcases hr with ⟨rfl, rfl⟩ | ⟨h1, h2⟩
  · rw [lexL_no ht] at J
    have e : pos + 1 - pos = 1 := by omega
    rw [e, drop_at l pos h]
    exact J
  · rw [lexL_no (high_tks _ _ h1), high_cls h1, lexL_four] at J
    rw [high_cls h2, lexL_four]
    exact J
/-- The text's end. -/
theorem run_end {l : List UInt8} {ps : List Pc} {k a pos : Nat} {X : Res} (h : l.length ≤ pos) (hk : k = 4 ∨ pos ≤ l.length)
    (J : runP ps (lexL k ((l.drop a).take (pos - a)) a pos (l.drop pos)) = X) : runP (ps ++ [⟨k, (l.drop a).take (l.length - a), a⟩]) (endR l.length) = X := by
  rw [runP_append]
  rcases hk with rfl | hk
  · rw [lexL_four] at J
    exact J
  · obtain rfl : pos = l.length := by omega
    rw [List.drop_length, lexL_nil] at J
    exact J
/-- The cells of pieces. -/
def pcells (ps : List Pc) : List Value := ps.flatMap fun p => [.int .i64 (p.k : Nat), .string ⟨p.t.toArray⟩, .int .i64 (p.a : Nat)]
theorem pcells_more (ps : List Pc) (p : Pc) : pcells (ps ++ [p]) = pcells ps ++ [.int .i64 (p.k : Nat), .string ⟨p.t.toArray⟩, .int .i64 (p.a : Nat)] := by
  simp [pcells]
theorem pcells_len (ps : List Pc) : (pcells ps).length = ps.length * 3 := by
  induction ps with
  | nil => rfl
  | cons p r ih =>
    have : pcells (p :: r) = [.int .i64 (p.k : Nat), .string ⟨p.t.toArray⟩, .int .i64 (p.a : Nat)] ++ pcells r := rfl
    rw [this, List.length_append, ih, List.length_cons]
    simp
    omega
/-- A piece within bounds. -/
def PcOk (p : Pc) : Prop := p.k ≤ 4 ∧ p.t.length ≤ 2000 ∧ p.a ≤ 2000
theorem oks_more {ps : List Pc} {p : Pc} (h : ∀ q, q ∈ ps → PcOk q) (hp : PcOk p) : ∀ q, q ∈ ps ++ [p] → PcOk q := by
  intro q hq
  rcases List.mem_append.1 hq with hq | hq
  · exact h q hq
  · rw [List.mem_singleton] at hq
    subst hq
    exact hp
theorem cls_le (r : Nat) : cls r ≤ 4 := by
  unfold cls
  repeat' split
  all_goals omega
theorem Step.ofBelow {I : Nat → Prop} {w w' : World} (o : Nat → Nat) (h : Below w.heap.size w w') : Step I w o w' o := ⟨h.os, h.tape, h.output, h.size, fun _ _ => rfl, fun k hk _ => h.block k hk⟩
theorem Step.iter {I : Nat → Prop} (w : World) (o : Nat → Nat) (b : Nat) (s : ByteArray) (pos : Nat) (h : I (o b)) : Step I w o (w.iterAt b s pos) o :=
  ⟨rfl, rfl, rfl, by rw [Lib.iterAt_size]; exact Nat.le_refl _, fun _ _ => rfl, fun k hk hn => Lib.iterAt_other w b k s pos (fun e => hn (by rw [e]; exact h))⟩
theorem info_parts {P : Program} {t : TypeId} {z : Option Value} {s b : Nat} (h : (P.info? t).map (fun i => (i.zero, i.size, i.bytes)) = some (z, s, b)) : ∃ i, P.info? t = some i ∧ i.zero = z ∧ i.size = s ∧ i.bytes = b := by
  cases hi : P.info? t with
  | none => rw [hi] at h; cases h
  | some i =>
    rw [hi] at h
    injection h with h
    exact ⟨i, rfl, (congrArg (·.1) h), (congrArg (·.2.1) h), (congrArg (·.2.2) h)⟩
theorem Blk.cells3 {w : World} {o : Nat → Nat} {i b : Nat} {a0 a1 a2 : Value} {t : TypeId} (h : Blk w o i b (.cells #[a0, a1, a2] t (0, 0))) :
    w.cell? ⟨b, 0, none⟩ = some a0 ∧ w.cell? ⟨b, 1, none⟩ = some a1 ∧ w.cell? ⟨b, 2, none⟩ = some a2 ∧ ∀ j, w.frozen? ⟨b, j, none⟩ = false := by
  refine ⟨?_, ?_, ?_, fun j => frozen_of_row w b j _ t h.1⟩ <;> simp [cell_of_row w b _ _ t (0, 0) h.1]
theorem new_three_at {w : World} {s : Nat} (hs : w.heap.size = s) (x y z : Value) (t : TypeId) : ∀ j u, [x, y, z][j]? = some u → (w.alloc (.cells #[x, y, z] t)).cell? ((⟨s, 0, none⟩ : Addr).add j) = some u := by
  subst hs
  intro j u hj
  match j, hj with
  | 0, hj => simp at hj; subst hj; simp [Addr.add]
  | 1, hj => simp at hj; subst hj; simp [Addr.add]
  | 2, hj => simp at hj; subst hj; simp [Addr.add]
theorem new_four_at {w : World} {s : Nat} (hs : w.heap.size = s) (x y z q : Value) (t : TypeId) : ∀ j u, [x, y, z, q][j]? = some u → (w.alloc (.cells #[x, y, z, q] t)).cell? ((⟨s, 0, none⟩ : Addr).add j) = some u := by
  subst hs
  intro j u hj
  match j, hj with
  | 0, hj => simp at hj; subst hj; simp [Addr.add]
  | 1, hj => simp at hj; subst hj; simp [Addr.add]
  | 2, hj => simp at hj; subst hj; simp [Addr.add]
  | 3, hj => simp at hj; subst hj; simp [Addr.add]
end Go.Proofs.YtlmeonpdjcophaaDoor
