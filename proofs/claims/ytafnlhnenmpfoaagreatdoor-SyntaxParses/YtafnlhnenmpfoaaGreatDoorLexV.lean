/- Package lex: Scan answers as the machine does. -/
import Derived.Test.YtafnlhnenmpfoaaGreatDoorLexP
import Derived.Test.YtafnlhnenmpfoaaGreatDoorRows
namespace Go.Proofs.YtafnlhnenmpfoaaGreatDoor
open Go.ChangeShapes Go.WideShapes Go.ChangeAt Go.RowKit
set_option linter.unusedVariables false

/-- Is the handle i + 1 in use? -/
def useB (free : List Nat) (i : Nat) : Bool := !(free.contains (i + 1))
def usedL (n : Nat) (free : List Nat) : List Value := (List.range n).map fun i => .bool (useB free i)
def intsL (l : List Nat) : List Value := l.map fun h : Nat => .int .i64 (h : Int)
structure WF (room n : Nat) (free : List Nat) : Prop where
  nodup : free.Nodup
  mem : ∀ h ∈ free, 1 ≤ h ∧ h ≤ n
  le : n ≤ room
  room : room ≤ 4096

theorem WF.push {room n : Nat} (hw : WF room n []) (h : n < room) : WF room (n + 1) [] := ⟨by simp, by simp, h, hw.room⟩
theorem WF.drop {room n : Nat} {free : List Nat} {h : Nat} (hw : WF room n free) (h1 : 1 ≤ h) (h2 : h ≤ n) (hu : useB free (h - 1) = true) : WF room n (free ++ [h]) := by
  have e : h - 1 + 1 = h := by omega
  have hn : h ∉ free := by simpa [useB, e] using hu
  refine ⟨List.nodup_append.2 ⟨hw.nodup, by simp, fun a ha b hb => ?_⟩, fun x hx => ?_, hw.le, hw.room⟩
  · simp at hb; subst hb; intro e; subst e; exact hn ha
  · rcases List.mem_append.1 hx with hx | hx
    · exact hw.mem x hx
    · simp at hx; subst hx; exact ⟨h1, h2⟩
theorem WF.new {room : Nat} (h : room ≤ 4096) : WF room 0 [] := ⟨by simp, by simp, Nat.zero_le _, h⟩

/-- An arena in memory: four labels from L on. -/
def Ar (TA E size : Nat) (w : World) (o : Nat → Nat) (L p room n : Nat) (cs : List Value) (free : List Nat) : Prop :=
  ∃ vt vi vf, Blk w o L p (.cells #[.int .i64 room, vt, vi, vf] TA (0, 0)) ∧ Row w o (L + 1) E size vt n cs ∧ Row w o (L + 2) 4 1 vi n (usedL n free) ∧ Row w o (L + 3) 3 1 vf free.length (intsL free) ∧ WF room n free

def IL (L : Nat) : Nat → Prop := fun k => L ≤ k ∧ k < L + 4
theorem Ar.step {TA E size : Nat} {I : Nat → Prop} {w w' : World} {o o' : Nat → Nat} {L p room n : Nat} {cs : List Value} {free : List Nat} (h : Ar TA E size w o L p room n cs free) (s : Step I w o w' o') (hi : ∀ k, IL L k → ¬ I k) : Ar TA E size w' o' L p room n cs free := by
  obtain ⟨vt, vi, vf, h0, h1, h2, h3, h4⟩ := h
  exact ⟨vt, vi, vf, h0.step s (hi _ ⟨by omega, by omega⟩), h1.step s (hi _ ⟨by omega, by omega⟩), h2.step s (hi _ ⟨by omega, by omega⟩), h3.step s (hi _ ⟨by omega, by omega⟩), h4⟩
theorem Ar.lt {TA E size : Nat} {w : World} {o : Nat → Nat} {L p room n : Nat} {cs : List Value} {free : List Nat} (h : Ar TA E size w o L p room n cs free) : p < w.heap.size := by
  obtain ⟨vt, vi, vf, h0, _⟩ := h
  exact h0.lt

theorem Blk.set {w : World} {o : Nat → Nat} {i b : Nat} {cs : Array Value} {t : TypeId} (h : Blk w o i b (.cells cs t (0, 0))) (j : Nat) (u : Value) : Blk (w.setCell ⟨b, j, none⟩ u) o i b (.cells (cs.setIfInBounds j u) t (0, 0)) :=
  ⟨heap_setCell_same w b j cs t u h.1, h.2⟩
theorem setStep (I : Nat → Prop) (w : World) (o : Nat → Nat) (p : Addr) (u : Value) (hp : I (o p.block)) : Step I w o (w.setCell p u) o := (Step.refl I w o).setCell p u hp
theorem IL.mk {L k : Nat} (h1 : L ≤ k) (h2 : k < L + 4) : IL L k := ⟨h1, h2⟩

theorem allocStep (I : Nat → Prop) (w : World) (o : Nat → Nat) (ob : Obj) : Step I w o (w.alloc ob) o := (Step.refl I w o).alloc ob

theorem Ar.drewN {TA E size : Nat} {w : World} {o : Nat → Nat} {L p room n : Nat} {cs : List Value} {free : List Nat} (h : Ar TA E size w o L p room n cs free) (m : Nat) : Ar TA E size (w.drewN m) o L p room n cs free := h

/-- A new arena. -/
theorem Ar.new {TA E size : Nat} {w : World} {o : Nat → Nat} {L room : Nat} (hr : room ≤ 4096) :
    Ar TA E size (w.alloc (.cells #[.int .i64 room, .slice none 0 0, .slice none 0 0, .slice none 0 0] TA)) (newLab w o L) L w.heap.size room 0 [] [] :=
  ⟨_, _, _, ⟨heap_alloc_new w _, newLab_new (Nat.le_refl _)⟩, Row.nil _ _ _ _ _, Row.nil _ _ _ _ _, Row.nil _ _ _ _ _, WF.new hr⟩
theorem newStep (I : Nat → Prop) (w : World) (o : Nat → Nat) (L : Nat) (ob : Obj) : Step I w o (w.alloc ob) (newLab w o L) :=
  ⟨rfl, rfl, rfl, by simp, fun k hk => newLab_old hk, fun k hk _ => Below.heap_alloc w ob k hk⟩

end Go.Proofs.YtafnlhnenmpfoaaGreatDoor
namespace Go.Proofs.YtafnlhnenmpfoaaGreatDoor
open Go.ChangeShapes Go.WideShapes Go.ChangeAt Go.RowKit
set_option linter.unusedVariables false

/-- What a walk reads of an arena's block. -/
theorem Blk.cells4 {w : World} {o : Nat → Nat} {i b : Nat} {a0 a1 a2 a3 : Value} {t : TypeId} (h : Blk w o i b (.cells #[a0, a1, a2, a3] t (0, 0))) :
    w.cell? ⟨b, 0, none⟩ = some a0 ∧ w.cell? ⟨b, 1, none⟩ = some a1 ∧ w.cell? ⟨b, 2, none⟩ = some a2 ∧ w.cell? ⟨b, 3, none⟩ = some a3 ∧ ∀ j, w.frozen? ⟨b, j, none⟩ = false := by
  refine ⟨?_, ?_, ?_, ?_, fun j => frozen_of_row w b j _ t h.1⟩ <;> simp [cell_of_row w b _ _ t (0, 0) h.1]


end Go.Proofs.YtafnlhnenmpfoaaGreatDoor
namespace Go.Proofs.YtafnlhnenmpfoaaGreatDoor
open Go.ChangeShapes Go.WideShapes Go.ChangeAt Go.RowKit
set_option linter.unusedVariables false

theorem ext_list (s : ByteArray) (a b : Nat) : (s.extract a b).data.toList = (s.data.toList.drop a).take (b - a) := by
  rw [ByteArray.data_extract, Array.toList_extract, List.extract_eq_take_drop]
theorem ext_eq (s : ByteArray) (a b : Nat) : s.extract a b = ⟨((s.data.toList.drop a).take (b - a)).toArray⟩ := by
  rw [← ext_list, back_text]
theorem take_more (l : List UInt8) (a pos : Nat) (h : pos < l.length) (ha : a ≤ pos) : (l.drop a).take (pos + 1 - a) = (l.drop a).take (pos - a) ++ [l[pos]] := by
  have e : pos + 1 - a = (pos - a) + 1 := by omega
  rw [e, List.take_add_one]
  congr 1
  rw [List.getElem?_drop]
  have e2 : a + (pos - a) = pos := by omega
  rw [e2, List.getElem?_eq_getElem h]
  rfl
theorem drop_at (l : List UInt8) (pos : Nat) (h : pos < l.length) : l.drop pos = l[pos] :: l.drop (pos + 1) := List.drop_eq_getElem_cons h
/-- A rune is taken. -/
theorem run_yes {l : List UInt8} {ps : List Pc} {k a pos : Nat} {X : Res} (h : pos < l.length) (ha : a ≤ pos) (ht : tks k ((l.drop a).take (pos - a)) (l[pos]).toNat = true)
    (J : runP ps (lexL k ((l.drop a).take (pos - a)) a pos (l.drop pos)) = X) : runP ps (lexL k ((l.drop a).take (pos + 1 - a)) a (pos + 1) (l.drop (pos + 1))) = X := by
  rw [drop_at l pos h, lexL_yes ht] at J
  rw [take_more l a pos h ha]
  exact J
/-- A rune is not taken. -/
theorem run_no {l : List UInt8} {ps : List Pc} {k a pos r q : Nat} {X : Res} (h : pos < l.length) (hr : (r = (l[pos]).toNat ∧ q = pos + 1) ∨ (128 ≤ (l[pos]).toNat ∧ 128 ≤ r)) (ht : tks k ((l.drop a).take (pos - a)) r = false)
    (J : runP ps (lexL k ((l.drop a).take (pos - a)) a pos (l.drop pos)) = X) : runP (ps ++ [⟨k, (l.drop a).take (pos - a), a⟩]) (lexL (cls r) ((l.drop pos).take (q - pos)) pos q (l.drop q)) = X := by
  rw [runP_append]
  rw [drop_at l pos h] at J
  rcases hr with ⟨rfl, rfl⟩ | ⟨h1, h2⟩
  · rw [lexL_no ht] at J
    have e : pos + 1 - pos = 1 := by omega
    rw [e, drop_at l pos h]
    exact J
  · rw [lexL_no (high_tks _ _ h1), high_cls h1, lexL_four] at J
    rw [high_cls h2, lexL_four]
    exact J
/-- The text's end. -/
theorem run_end {l : List UInt8} {ps : List Pc} {k a pos : Nat} {X : Res} (h : l.length ≤ pos) (hk : k = 4 ∨ pos ≤ l.length)
    (J : runP ps (lexL k ((l.drop a).take (pos - a)) a pos (l.drop pos)) = X) : runP (ps ++ [⟨k, (l.drop a).take (l.length - a), a⟩]) (endR l.length) = X := by
  rw [runP_append]
  rcases hk with rfl | hk
  · rw [lexL_four] at J
    exact J
  · obtain rfl : pos = l.length := by omega
    rw [List.drop_length, lexL_nil] at J
    exact J
/-- The cells of pieces. -/
def pcells (ps : List Pc) : List Value := ps.flatMap fun p => [.int .i64 (p.k : Nat), .string ⟨p.t.toArray⟩, .int .i64 (p.a : Nat)]
theorem pcells_more (ps : List Pc) (p : Pc) : pcells (ps ++ [p]) = pcells ps ++ [.int .i64 (p.k : Nat), .string ⟨p.t.toArray⟩, .int .i64 (p.a : Nat)] := by
  simp [pcells]
/-- A piece within bounds. -/
def PcOk (p : Pc) : Prop := p.k ≤ 4 ∧ p.t.length ≤ 2000 ∧ p.a ≤ 2000
theorem oks_more {ps : List Pc} {p : Pc} (h : ∀ q, q ∈ ps → PcOk q) (hp : PcOk p) : ∀ q, q ∈ ps ++ [p] → PcOk q := by
  intro q hq
  rcases List.mem_append.1 hq with hq | hq
  · exact h q hq
  · rw [List.mem_singleton] at hq
    subst hq
    exact hp
theorem cls_le (r : Nat) : cls r ≤ 4 := by
  unfold cls
  repeat' split
  all_goals omega
theorem Step.ofBelow {I : Nat → Prop} {w w' : World} (o : Nat → Nat) (h : Below w.heap.size w w') : Step I w o w' o := ⟨h.os, h.tape, h.output, h.size, fun _ _ => rfl, fun k hk _ => h.block k hk⟩
theorem Step.iter {I : Nat → Prop} (w : World) (o : Nat → Nat) (b : Nat) (s : ByteArray) (pos : Nat) (h : I (o b)) : Step I w o (w.iterAt b s pos) o :=
  ⟨rfl, rfl, rfl, by rw [Lib.iterAt_size]; exact Nat.le_refl _, fun _ _ => rfl, fun k hk hn => Lib.iterAt_other w b k s pos (fun e => hn (by rw [e]; exact h))⟩
theorem info_parts {P : Program} {t : TypeId} {z : Option Value} {s b : Nat} (h : (P.info? t).map (fun i => (i.zero, i.size, i.bytes)) = some (z, s, b)) : ∃ i, P.info? t = some i ∧ i.zero = z ∧ i.size = s ∧ i.bytes = b := by
  cases hi : P.info? t with
  | none => rw [hi] at h; cases h
  | some i =>
    rw [hi] at h
    injection h with h
    exact ⟨i, rfl, (congrArg (·.1) h), (congrArg (·.2.1) h), (congrArg (·.2.2) h)⟩
theorem Blk.cells3 {w : World} {o : Nat → Nat} {i b : Nat} {a0 a1 a2 : Value} {t : TypeId} (h : Blk w o i b (.cells #[a0, a1, a2] t (0, 0))) :
    w.cell? ⟨b, 0, none⟩ = some a0 ∧ w.cell? ⟨b, 1, none⟩ = some a1 ∧ w.cell? ⟨b, 2, none⟩ = some a2 ∧ ∀ j, w.frozen? ⟨b, j, none⟩ = false := by
  refine ⟨?_, ?_, ?_, fun j => frozen_of_row w b j _ t h.1⟩ <;> simp [cell_of_row w b _ _ t (0, 0) h.1]
theorem new_three_at {w : World} {s : Nat} (hs : w.heap.size = s) (x y z : Value) (t : TypeId) : ∀ j u, [x, y, z][j]? = some u → (w.alloc (.cells #[x, y, z] t)).cell? ((⟨s, 0, none⟩ : Addr).add j) = some u := by
  subst hs
  intro j u hj
  match j, hj with
  | 0, hj => simp at hj; subst hj; simp [Addr.add]
  | 1, hj => simp at hj; subst hj; simp [Addr.add]
  | 2, hj => simp at hj; subst hj; simp [Addr.add]
theorem new_four_at {w : World} {s : Nat} (hs : w.heap.size = s) (x y z q : Value) (t : TypeId) : ∀ j u, [x, y, z, q][j]? = some u → (w.alloc (.cells #[x, y, z, q] t)).cell? ((⟨s, 0, none⟩ : Addr).add j) = some u := by
  subst hs
  intro j u hj
  match j, hj with
  | 0, hj => simp at hj; subst hj; simp [Addr.add]
  | 1, hj => simp at hj; subst hj; simp [Addr.add]
  | 2, hj => simp at hj; subst hj; simp [Addr.add]
  | 3, hj => simp at hj; subst hj; simp [Addr.add]
end Go.Proofs.YtafnlhnenmpfoaaGreatDoor
namespace Go.Proofs.YtafnlhnenmpfoaaGreatDoor
open Go.ChangeShapes Go.WideShapes Go.ChangeAt Go.RowKit
set_option linter.unusedVariables false

theorem infoPiece : (Tryz.prog.info? 74).map (fun i => (i.zero, i.size, i.bytes)) = some (some (.agg #[.int .i64 0, .string ⟨#[]⟩, .int .i64 0]), 3, 32) := by kernel_rfl
abbrev I3 : Nat → Prop := fun k => k = 1 ∨ k = 2 ∨ k = 3
structure Cu (s : ByteArray) (w wr : World) (o : Nat → Nat) (v : Value) (ps : List Pc) (k a pos : Nat) (tx : ByteArray) : Prop where
  row : Row wr o 1 74 3 v ps.length (pcells ps)
  box : Blk wr o 2 w.heap.size (.cells #[.int .i64 (k : Nat), .string tx, .int .i64 (a : Nat)] 74 (0, 0))
  itr : Blk wr o 3 (w.heap.size + 1) (.stringIter s pos)
  k4 : k ≤ 4
  ap : a ≤ pos
  asz : a ≤ s.size
  pe : k = 4 ∨ pos ≤ s.size
  len : ps.length ≤ s.size
  ln2 : ps.length ≤ pos
  run : runP ps (lexL k ((s.data.toList.drop a).take (pos - a)) a pos (s.data.toList.drop pos)) = lexA s.data.toList
  oks : ∀ p, p ∈ ps → PcOk p
  stp : Step I3 w (fun _ => 0) wr o
theorem rune_kinds (s : ByteArray) (pos : Nat) (hp : pos < s.size) (hpl : pos < s.data.toList.length) : ((Utf8.decode s pos).1 = (s.data.toList[pos]).toNat ∧ (Utf8.decode s pos).2 = 1 ∧ (Utf8.decode s pos).1 < 128) ∨ (128 ≤ (s.data.toList[pos]).toNat ∧ 128 ≤ (Utf8.decode s pos).1 ∧ 1 ≤ (Utf8.decode s pos).2) := by
  rw [data_get s pos hp hpl]
  by_cases ha : (s[pos]'hp).toNat < 128
  · rw [decode_ascii s pos hp ha]
    exact .inl ⟨rfl, rfl, ha⟩
  · exact .inr ⟨by omega, (decode_high s pos hp (by omega)).1, (decode_high s pos hp (by omega)).2⟩
theorem Blk.set3 {w : World} {o : Nat → Nat} {i b : Nat} {a0 a1 a2 : Value} {t : TypeId} (h : Blk w o i b (.cells #[a0, a1, a2] t (0, 0))) (u v x : Value) :
    Blk (((w.setCell ⟨b, 0, none⟩ u).setCell ⟨b, 1, none⟩ v).setCell ⟨b, 2, none⟩ x) o i b (.cells #[u, v, x] t (0, 0)) := by
  have := ((h.set 0 u).set 1 v).set 2 x
  simpa using this
theorem Blk.set3b {w : World} {o : Nat → Nat} {i b : Nat} {a0 a1 a2 : Value} {t : TypeId} (h : Blk w o i b (.cells #[a0, a1, a2] t (0, 0))) (v : Value) :
    Blk (w.setCell ⟨b, 1, none⟩ v) o i b (.cells #[a0, v, a2] t (0, 0)) := by
  have := h.set 1 v
  simpa using this
/-- What the round begins with: the iterator moved on, the text laid. -/
theorem Cu.begin {s : ByteArray} {w wr : World} {o : Nat → Nat} {v : Value} {ps : List Pc} {k a pos : Nat} {tx : ByteArray} (J : Cu s w wr o v ps k a pos tx) (q : Nat) (t2 : ByteArray) {w3 : World}
    (hb : Below ((wr.iterAt (w.heap.size + 1) s q).setCell ⟨w.heap.size, 1, none⟩ (.string t2)).heap.size ((wr.iterAt (w.heap.size + 1) s q).setCell ⟨w.heap.size, 1, none⟩ (.string t2)) w3) :
    Row w3 o 1 74 3 v ps.length (pcells ps) ∧ Blk w3 o 2 w.heap.size (.cells #[.int .i64 (k : Nat), .string t2, .int .i64 (a : Nat)] 74 (0, 0)) ∧ Blk w3 o 3 (w.heap.size + 1) (.stringIter s q) ∧ Step I3 w (fun _ => 0) w3 o := by
  have s1 : Step (fun k => k = 3) wr o (wr.iterAt (w.heap.size + 1) s q) o := Step.iter wr o _ s q J.itr.2
  have R1 := J.row.step s1 (by decide)
  have B1 := J.box.step s1 (by decide)
  have T1 : Blk (wr.iterAt (w.heap.size + 1) s q) o 3 (w.heap.size + 1) (.stringIter s q) := ⟨Lib.iterAt_heap wr _ s pos q J.itr.1, J.itr.2⟩
  have s2 : Step (fun k => k = 2) (wr.iterAt (w.heap.size + 1) s q) o ((wr.iterAt (w.heap.size + 1) s q).setCell ⟨w.heap.size, 1, none⟩ (.string t2)) o := setStep _ _ _ _ _ J.box.2
  have R2 := R1.step s2 (by decide)
  have T2 := T1.step s2 (by decide)
  have B2 := B1.set3b (.string t2)
  have s3 := Step.ofBelow (I := fun _ => False) o hb
  exact ⟨R2.step s3 (by simp), B2.step s3 (by simp), T2.step s3 (by simp), (((J.stp.trans (s1.mono (fun i h => .inr (.inr h)))).trans (s2.mono (fun i h => .inr (.inl h)))).trans (s3.mono (fun i h => h.elim)))⟩
set_option maxRecDepth 100000 in
set_option maxHeartbeats 2000000 in
theorem cut_c (s : ByteArray) (w : World) (hs : s.size ≤ 2000) :
    Calls Tryz.prog 39 #[.string s] w fun e w' => ∃ v ps o', e = .returned v ∧ Row w' o' 1 74 3 v ps.length (pcells ps) ∧ runP ps (endR s.size) = lexA s.data.toList ∧ (∀ p, p ∈ ps → PcOk p) ∧ ps.length ≤ 2001 ∧ 0 < ps.length ∧ Step I3 w (fun _ => 0) w' o' := by
  obtain ⟨ii, hii, hz0, hz1, hz2⟩ := info_parts infoPiece
  have HL : Hid (s.data.toList.length = s.size) := data_len s
  go_enter Tryz.func39, Tryz.ntmps39
  go_wp2_with fail
  go_loopw [3] (fun v wr => ∃ ps k a pos tx o, Cu s w wr o v ps k a pos tx) (fun _ wr => s.size - wr.iterPos (w.heap.size + 1))
  case atStart =>
    have hsz : (w.alloc (.cells #[.int .i64 0, .string ⟨#[]⟩, .int .i64 0] 74)).heap.size = w.heap.size + 1 := by simp
    refine ⟨[], 0, 0, 0, ⟨#[]⟩, newLab (w.alloc (.cells #[.int .i64 0, .string ⟨#[]⟩, .int .i64 0] 74)) (newLab w (fun _ => 0) 2) 3, Row.nil _ _ _ _ _, ⟨?_, ?_⟩, ⟨?_, ?_⟩, by omega, by omega, by omega, .inr (by omega), by simp, by simp, ?_, by simp, ?_⟩
    · show ((w.alloc _).alloc _).heap[w.heap.size]? = _
      rw [heap_alloc_old (h := by simp)]
      exact heap_alloc_new _ _
    · rw [newLab_old (by simp), newLab_new (by omega)]
    · exact heap_alloc2_new _ _ _
    · rw [newLab_new (by simp)]
    · simp [runP, lexA]
    · exact (newStep I3 w (fun _ => 0) 2 _).trans (newStep I3 _ _ 3 _)
  case round =>
    obtain ⟨ps, k, a, pos, tx, o, J⟩ := hrel
    have h1 : (a : Int) ≤ (s.size : Int) := by have := J.asz; omega
    by_cases hp : pos < s.size
    · have hpl : pos < s.data.toList.length := by have := HL.out; omega
      have hnx : ∀ ty, (Instr.next (.pointer (some ⟨w.heap.size + 1, 0, none⟩)) true ty).run Tryz.prog wr = _ := fun ty => Lib.run_next_any_at wr (w.heap.size + 1) s pos ty J.itr.1 hp
      have hr := decode_le s pos
      have hkn := rune_kinds s pos hp hpl
      have hbg := fun (w3 : World) hb => J.begin (pos + (Utf8.decode s pos).2) (s.extract a pos) (w3 := w3) hb
      have hmz : ∀ w3 : World, w3.heap[w.heap.size + 1]? = some (.stringIter s (pos + (Utf8.decode s pos).2)) → 1 ≤ (Utf8.decode s pos).2 → s.size - w3.iterPos (w.heap.size + 1) < s.size - wr.iterPos (w.heap.size + 1) := fun w3 h3 h4 => by
        simp only [World.iterPos, h3, J.itr.1]
        omega
      have B2 : (wr.iterAt (w.heap.size + 1) s (pos + (Utf8.decode s pos).2)).heap[w.heap.size]? = some (.cells #[.int .i64 (k : Nat), .string tx, .int .i64 (a : Nat)] 74 (0, 0)) := by
        rw [Lib.iterAt_other _ _ _ _ _ (by omega)]
        exact J.box.1
      have hk4 := J.k4
      have hap := J.ap
      have hel := ext_list s a pos
      have hee := ext_eq s a pos
      have HJ : Hid (a ≤ s.size ∧ ps.length ≤ s.size ∧ ps.length ≤ pos ∧ runP ps (lexL k ((s.data.toList.drop a).take (pos - a)) a pos (s.data.toList.drop pos)) = lexA s.data.toList ∧ (∀ p, p ∈ ps → PcOk p)) := ⟨J.asz, J.len, J.ln2, J.run, J.oks⟩
      generalize wr.iterAt (w.heap.size + 1) s (pos + (Utf8.decode s pos).2) = w2 at *
      generalize Utf8.decode s pos = rw0 at *
      obtain ⟨r, wd0⟩ := rw0
      simp only at hr hkn hnx hbg hmz
      have c0 : w2.cell? ⟨w.heap.size, 0, none⟩ = some (.int .i64 (k : Nat)) := by rw [cell_of_row _ _ _ _ _ _ B2]; rfl
      have c1 : w2.cell? ⟨w.heap.size, 1, none⟩ = some (.string tx) := by rw [cell_of_row _ _ _ _ _ _ B2]; rfl
      have c2 : w2.cell? ⟨w.heap.size, 2, none⟩ = some (.int .i64 (a : Nat)) := by rw [cell_of_row _ _ _ _ _ _ B2]; rfl
      have fz : ∀ j, w2.frozen? ⟨w.heap.size, j, none⟩ = false := fun j => frozen_of_row w2 _ j _ _ B2
      have h1b : (a : Int) ≤ (pos : Int) := by omega
      have h2 : (pos : Int) ≤ (s.size : Int) := by omega
      have HE : Hid ((s.extract a pos).data.toList = (s.data.toList.drop a).take (pos - a) ∧ s.extract a pos = ⟨((s.data.toList.drop a).take (pos - a)).toArray⟩) := ⟨hel, hee⟩
      have HK := Lib.hid hkn
      have HB := Lib.hid hbg
      have HM := Lib.hid hmz
      clear hel hee hkn hbg hmz J B2
      go_wp2_with fail
      refine (takes_c k (s.extract a pos) a r _ hk4 hr).mono ?_
      rintro e w3 ⟨rfl, hb3⟩
      obtain ⟨R3, B3, T3, S3⟩ := HB.out w3 hb3
      have htl := HE.out.1
      cases htk : tks k (s.extract a pos).data.toList r
      · obtain ⟨d0, d1, d2, fz3⟩ := B3.cells3
        have hcl := cls_le r
        have HN : Hid (Cu s w w3 o u3 ps k a pos (s.extract a pos) → True) := fun _ => trivial
        have HT : Hid (tks k ((s.data.toList.drop a).take (pos - a)) r = false) := by rw [← htl]; exact htk
        have HS : Hid (Row w3 o 1 74 3 u3 ps.length (pcells ps) ∧ Blk w3 o 2 w.heap.size (.cells #[.int .i64 (k : Nat), .string (s.extract a pos), .int .i64 (a : Nat)] 74 (0, 0)) ∧ Blk w3 o 3 (w.heap.size + 1) (.stringIter s (pos + wd0)) ∧ Step I3 w (fun _ => 0) w3 o) := ⟨R3, B3, T3, S3⟩
        have hps : ps.length ≤ 2000 := by have := HJ.out.2.1; omega
        have R3' := R3.step (allocStep (fun _ => False) w3 o (.cells #[.int .i64 (k : Nat), .string (s.extract a pos), .int .i64 (a : Nat)] 74)) (by simp)
        clear htl R3 B3 T3 S3 c0 c1 c2 fz hnx htk hb3
        generalize s.extract a pos = t at *
        go_wp2_with (first | (at_builtin; refine wpList_append_lab rfl (.tmp 23) (.tmp 25) 71 rfl 74 ii (.agg #[.int .i64 0, .string ⟨#[]⟩, .int .i64 0]) 3 32 Tryz.underlying71 hii hz0 hz1 hz2 rfl (by decide) o 1 _ ps.length (pcells ps) rfl R3' ⟨w3.heap.size, 0, none⟩ 1 1 [.int .i64 (k : Nat), .string t, .int .i64 (a : Nat)] rfl rfl ?c1 ?c2 (by decide) ?c3 ?c4 ?_) | go_in)
        case c1 => exact new_three_at rfl _ _ _ _
        case c2 => intro u hu; simp at hu; rcases hu with rfl | rfl | rfl <;> rfl
        case c3 => unfold maxLen; omega
        case c4 => omega
        intro g cap w5 o5 R5 s5'
        have s5 : Step (fun k => k = 1) w3 o w5 o5 := (allocStep _ w3 o _).trans s5'
        obtain ⟨R3, B3, T3, S3⟩ := HS.out
        have B5 := B3.step s5 (by decide)
        have T5 := T3.step s5 (by decide)
        have S5 := S3.trans (s5.mono (fun i h => .inl h))
        obtain ⟨e0, e1, e2, fz5⟩ := B5.cells3
        have HS5 : Hid (Row w5 o5 1 74 3 (.slice (some ⟨g, 0, none⟩) (ps.length + 1) cap) (ps.length + 1) (pcells ps ++ [.int .i64 (k : Nat), .string t, .int .i64 (a : Nat)]) ∧ Blk w5 o5 2 w.heap.size (.cells #[.int .i64 (k : Nat), .string t, .int .i64 (a : Nat)] 74 (0, 0)) ∧ Blk w5 o5 3 (w.heap.size + 1) (.stringIter s (pos + wd0)) ∧ Step I3 w (fun _ => 0) w5 o5) := ⟨R5, B5, T5, S5⟩
        clear R5 B5 T5 S5 s5 s5' R3 B3 T3 S3 R3' d0 d1 d2 fz3 HS
        go_wp2_with (go_at_call 75; refine (kind_c r _ hr).mono ?_; rintro e w6 ⟨rfl, rfl⟩)
        obtain ⟨R5, B5, T5, S5⟩ := HS5.out
        have B7 := B5.set3 (.int .i64 (cls r : Nat)) (.string ⟨#[]⟩) (.int .i64 (pos : Nat))
        have s7 : Step (fun k => k = 2) w6 o5 (((w6.setCell ⟨w.heap.size, 0, none⟩ (.int .i64 (cls r : Nat))).setCell ⟨w.heap.size, 1, none⟩ (.string ⟨#[]⟩)).setCell ⟨w.heap.size, 2, none⟩ (.int .i64 (pos : Nat))) o5 :=
          ((setStep _ _ _ _ _ B5.2).trans (setStep _ _ _ _ _ B5.2)).trans (setStep _ _ _ _ _ B5.2)
        have R7 := R5.step s7 (by decide)
        have T7 := T5.step s7 (by decide)
        have S7 := S5.trans (s7.mono (fun i h => .inr (.inl h)))
        obtain ⟨j1, j2, j3, j4, j5⟩ := HJ.out
        have hll := HL.out
        have RN : runP (ps ++ [Pc.mk k ((s.data.toList.drop a).take (pos - a)) a]) (lexL (cls r) ((s.data.toList.drop pos).take (pos + wd0 - pos)) pos (pos + wd0) (s.data.toList.drop (pos + wd0))) = lexA s.data.toList := by
          refine run_no hpl ?_ HT.out j4
          rcases HK.out with ⟨h1, h2, h3⟩ | ⟨h1, h2, h3⟩
          · exact .inl ⟨h1, by rw [h2]⟩
          · exact .inr ⟨h1, h2⟩
        have OK : PcOk ⟨k, (s.data.toList.drop a).take (pos - a), a⟩ := ⟨hk4, by simp; omega, by show a ≤ 2000; omega⟩
        have hwd : 1 ≤ wd0 := by rcases HK.out with ⟨_, h, _⟩ | ⟨_, _, h⟩ <;> omega
        have RR : Row (((w6.setCell ⟨w.heap.size, 0, none⟩ (.int .i64 (cls r : Nat))).setCell ⟨w.heap.size, 1, none⟩ (.string ⟨#[]⟩)).setCell ⟨w.heap.size, 2, none⟩ (.int .i64 (pos : Nat))) o5 1 74 3 (.slice (some ⟨g, 0, none⟩) (ps.length + 1) cap) (ps ++ [Pc.mk k ((s.data.toList.drop a).take (pos - a)) a]).length (pcells (ps ++ [Pc.mk k ((s.data.toList.drop a).take (pos - a)) a])) := by
          rw [pcells_more, List.length_append, ← HE.out.2]
          exact R7
        have hpe : cls r = 4 ∨ pos + wd0 ≤ s.size := by
          rcases HK.out with ⟨h1, h2, h3⟩ | ⟨h1, h2, h3⟩
          · exact .inr (by omega)
          · exact .inl (high_cls h2)
        obtain ⟨n0, hn0⟩ : ∃ n0, n0 = ps.length := ⟨_, rfl⟩
        have HF : ∃ ps k a q tx o, Cu s w (((w6.setCell ⟨w.heap.size, 0, none⟩ (.int .i64 (cls r : Nat))).setCell ⟨w.heap.size, 1, none⟩ (.string ⟨#[]⟩)).setCell ⟨w.heap.size, 2, none⟩ (.int .i64 (pos : Nat))) o (.slice (some ⟨g, 0, none⟩) (n0 + 1) cap) ps k a q tx := by
          subst hn0
          exact ⟨_, cls r, pos, pos + wd0, _, o5, RR, B7, T7, hcl, by omega, by omega, hpe, by simp; omega, by simp; omega, RN, oks_more j5 OK, S7⟩
        subst hn0
        go_roundw
        case rel => (try ((repeat apply Exists.intro); refine ⟨?_, rfl⟩)); exact HF
        case measure => exact HM.out _ T7.1 hwd
      · rw [htl] at htk
        have hwd : wd0 = 1 ∧ tks k ((s.data.toList.drop a).take (pos - a)) (s.data.toList[pos]).toNat = true := by
          rcases HK.out with ⟨h1, h2, h3⟩ | ⟨h1, h2, h3⟩
          · exact ⟨h2, by rw [← h1]; exact htk⟩
          · rw [high_tks _ _ h2] at htk
            cases htk
        obtain ⟨rfl, htk2⟩ := hwd
        obtain ⟨j1, j2, j3, j4, j5⟩ := HJ.out
        have RN := run_yes hpl hap htk2 j4
        have hme := HM.out w3 T3.1 (by omega)
        have HF : Hid (∃ ps k a pos tx o, Cu s w w3 o u3 ps k a pos tx) := ⟨ps, k, a, pos + 1, _, o, R3, B3, T3, hk4, by omega, by omega, .inr (by omega), j2, by omega, RN, j5, S3⟩
        clear htl R3 B3 T3 S3 c0 c1 c2 fz hnx htk hb3 htk2 j4 RN
        go_wp2
        go_roundw
        case rel => (try ((repeat apply Exists.intro); refine ⟨?_, rfl⟩)); exact HF.out
        case measure => exact hme
    · have hnx : ∀ ty, (Instr.next (.pointer (some ⟨w.heap.size + 1, 0, none⟩)) true ty).run Tryz.prog wr = _ := fun ty => Lib.run_next_end_at wr (w.heap.size + 1) s pos ty J.itr.1 hp
      obtain ⟨c0, c1, c2, fz⟩ := J.box.cells3
      have hll := HL.out
      have HJ := Lib.hid J
      have R3' := (J.row.step (setStep (fun k => k = 2) wr o ⟨w.heap.size, 1, none⟩ (.string (s.extract a s.size)) J.box.2) (by decide)).step (allocStep (fun _ => False) _ o (.cells #[.int .i64 (k : Nat), .string (s.extract a s.size), .int .i64 (a : Nat)] 74)) (by simp)
      have S3' := J.stp.trans ((setStep (fun k => k = 2) wr o ⟨w.heap.size, 1, none⟩ (.string (s.extract a s.size)) J.box.2).mono (fun i h => .inr (.inl h)))
      have hps : ps.length ≤ 2000 := by have := J.len; omega
      have HE := Lib.hid (ext_eq s a s.size)
      clear J hll
      go_wp2_with (first | (at_builtin; refine wpList_append_lab rfl (.tmp 36) (.tmp 38) 71 rfl 74 ii (.agg #[.int .i64 0, .string ⟨#[]⟩, .int .i64 0]) 3 32 Tryz.underlying71 hii hz0 hz1 hz2 rfl (by decide) o 1 _ ps.length (pcells ps) rfl R3' ⟨wr.heap.size, 0, none⟩ 1 1 [.int .i64 (k : Nat), .string (s.extract a s.size), .int .i64 (a : Nat)] rfl rfl ?c1 ?c2 (by decide) ?c3 ?c4 ?_) | go_in)
      case c1 => exact new_three_at (by simp) _ _ _ _
      case c2 => intro u hu; simp at hu; rcases hu with rfl | rfl | rfl <;> rfl
      case c3 => unfold maxLen; omega
      case c4 => omega
      intro g cap w5 o5 R5 s5'
      have S5 := (S3'.trans (allocStep I3 _ o _)).trans (s5'.mono (fun i h => .inl h))
      have J := HJ.out
      have hll := HL.out
      have RN := run_end (by omega) (by rcases J.pe with h | h; exact .inl h; exact .inr (by omega)) J.run
      rw [hll] at RN
      have RR : Row w5 o5 1 74 3 (.slice (some ⟨g, 0, none⟩) (ps.length + 1) cap) (ps ++ [Pc.mk k ((s.data.toList.drop a).take (s.size - a)) a]).length (pcells (ps ++ [Pc.mk k ((s.data.toList.drop a).take (s.size - a)) a])) := by
        rw [pcells_more, List.length_append, ← HE.out]
        exact R5
      have OK : PcOk ⟨k, (s.data.toList.drop a).take (s.size - a), a⟩ := ⟨J.k4, by simp; omega, by have := J.asz; show a ≤ 2000; omega⟩
      have OKS := oks_more J.oks OK
      clear R5 s5' S3' R3' hnx c0 c1 c2 fz J
      go_wp2
      go_ret
      exact ⟨_, _, o5, rfl, RR, RN, OKS, by simp; omega, by simp, S5⟩
end Go.Proofs.YtafnlhnenmpfoaaGreatDoor
namespace Go.Proofs.YtafnlhnenmpfoaaGreatDoor
open Go.ChangeShapes Go.WideShapes Go.ChangeAt Go.RowKit
set_option linter.unusedVariables false

theorem infoToken : (Tryz.prog.info? 47).map (fun i => (i.zero, i.size, i.bytes)) = some (some (.agg #[.int .i64 0, .int .i64 0, .string ⟨#[]⟩, .int .i64 0]), 4, 40) := by kernel_rfl
/-- The cells of tokens. -/
def tcells (ts : List Tk) : List Value := ts.flatMap fun x => [.int .i64 (x.k : Nat), .int .i64 x.n, .string ⟨x.t.toArray⟩, .int .i64 (x.a : Nat)]
theorem tcells_more (ts : List Tk) (x : Tk) : tcells (ts ++ [x]) = tcells ts ++ [.int .i64 (x.k : Nat), .int .i64 x.n, .string ⟨x.t.toArray⟩, .int .i64 (x.a : Nat)] := by
  simp [tcells]
theorem pcells_at : ∀ (ps : List Pc) (i : Nat) (h : i < ps.length), (pcells ps)[i * 3]? = some (.int .i64 ((ps[i]).k : Nat)) ∧ (pcells ps)[i * 3 + 1]? = some (.string ⟨(ps[i]).t.toArray⟩) ∧ (pcells ps)[i * 3 + 2]? = some (.int .i64 ((ps[i]).a : Nat))
  | [], i, h => by cases h
  | p :: r, 0, h => ⟨rfl, rfl, rfl⟩
  | p :: r, i + 1, h => by
    have e : pcells (p :: r) = .int .i64 (p.k : Nat) :: .string ⟨p.t.toArray⟩ :: .int .i64 (p.a : Nat) :: pcells r := rfl
    have e1 : (i + 1) * 3 = i * 3 + 1 + 1 + 1 := by omega
    have ih := pcells_at r i (by simpa using h)
    rw [e, e1]
    exact ih
theorem tcells_at : ∀ (ts : List Tk) (i : Nat) (h : i < ts.length), (tcells ts)[i * 4]? = some (.int .i64 ((ts[i]).k : Nat)) ∧ (tcells ts)[i * 4 + 1]? = some (.int .i64 (ts[i]).n) ∧ (tcells ts)[i * 4 + 2]? = some (.string ⟨(ts[i]).t.toArray⟩) ∧ (tcells ts)[i * 4 + 3]? = some (.int .i64 ((ts[i]).a : Nat))
  | [], i, h => by cases h
  | p :: r, 0, h => ⟨rfl, rfl, rfl, rfl⟩
  | p :: r, i + 1, h => by
    have e : tcells (p :: r) = .int .i64 (p.k : Nat) :: .int .i64 p.n :: .string ⟨p.t.toArray⟩ :: .int .i64 (p.a : Nat) :: tcells r := rfl
    have e1 : (i + 1) * 4 = i * 4 + 1 + 1 + 1 + 1 := by omega
    have ih := tcells_at r i (by simpa using h)
    rw [e, e1]
    exact ih
/-- Tokens, and X behind them. -/
def preR : List Tk → Res → Res
  | [], X => X
  | x :: r, X => consR x (preR r X)
theorem preR_more (ts : List Tk) (x : Tk) (X : Res) : preR (ts ++ [x]) X = preR ts (consR x X) := by
  induction ts with
  | nil => rfl
  | cons y r ih => simp only [List.cons_append, preR, ih]
theorem preR_inl (ts : List Tk) (e : Nat × Nat) : preR ts (.inl e) = .inl e := by
  induction ts with
  | nil => rfl
  | cons y r ih => simp only [preR, ih]; rfl
theorem preR_inr (ts us : List Tk) : preR ts (.inr us) = .inr (ts ++ us) := by
  induction ts with
  | nil => rfl
  | cons y r ih => simp only [preR, ih]; rfl
theorem ptok_err {k : Nat} {t : List UInt8} {a e : Nat} (h : ptok k t a = .inl e) : e = 110 ∨ e = 111 ∨ e = 112 := by
  unfold ptok at h
  split at h
  · unfold wrdT at h
    repeat' split at h
    all_goals first | (injection h with h; omega) | cases h
  · unfold numT at h
    repeat' split at h
    all_goals first | (injection h with h; omega) | cases h
  · unfold sgnT at h
    split at h
    all_goals first | (injection h with h; omega) | cases h
  · injection h with h
    omega
theorem run_step (ps : List Pc) (i : Nat) (h : i < ps.length) (X : Res) : runP (ps.drop i) X = shutP (ps[i]).k (ps[i]).t (ps[i]).a (runP (ps.drop (i + 1)) X) := by
  rw [List.drop_eq_getElem_cons h]
  rfl
abbrev I4 : Nat → Prop := fun k => k = 1 ∨ k = 2 ∨ k = 3 ∨ k = 4
/-- What Scan answers: tokens that are new memory, or an error and its place. -/
def ScanOut (w w' : World) (v : Value) (er at0 : Int) (R : Res) : Prop :=
  (∃ e p, R = .inl (e, p) ∧ v = .slice none 0 0 ∧ er = (e : Nat) ∧ at0 = (p : Nat)) ∨ (∃ ts, R = .inr ts ∧ er = 0 ∧ at0 = 0 ∧ w'.ownsRow w.heap.size 47 4 v ts.length (tcells ts))
theorem Row.fresh {I : Nat → Prop} {w w' : World} {o' : Nat → Nat} {i : Nat} {e : TypeId} {size : Nat} {v : Value} {n : Nat} {xs : List Value} (r : Row w' o' (i + 1) e size v n xs) (s : Step I w (fun _ => 0) w' o') : w'.ownsRow w.heap.size e size v n xs := by
  refine ⟨r.1.1, ?_⟩
  rcases r.1.2 with h | ⟨g, cap, cur, rfl, hb, rest⟩
  · exact .inl h
  · refine .inr ⟨g, cap, cur, rfl, ?_, rest⟩
    by_cases hg : g < w.heap.size
    · have h1 := s.lab g hg
      have h2 := r.2 g rfl
      omega
    · omega
end Go.Proofs.YtafnlhnenmpfoaaGreatDoor
