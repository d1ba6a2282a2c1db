/- Trees and the reader in memory. -/
import Derived.Test.YtojleoionpnjpaaGreatDoorLexP
import Derived.Test.YtojleoionpnjpaaGreatDoorRows
namespace Go.Proofs.YtojleoionpnjpaaGreatDoor
open Go.ChangeShapes Go.WideShapes Go.ChangeAt Go.RowKit
set_option linter.unusedVariables false

/-- Is the handle i + 1 in use? -/
def useB (free : List Nat) (i : Nat) : Bool := !(free.contains (i + 1))
def usedL (n : Nat) (free : List Nat) : List Value := (List.range n).map fun i => .bool (useB free i)
def intsL (l : List Nat) : List Value := l.map fun h : Nat => .int .i64 (h : Int)
structure WF (room n : Nat) (free : List Nat) : Prop where
  nodup : free.Nodup
  mem : ∀ h ∈ free, 1 ≤ h ∧ h ≤ n
  le : n ≤ room
  room : room ≤ 4096

theorem WF.push {room n : Nat} (hw : WF room n []) (h : n < room) : WF room (n + 1) [] := ⟨by simp, by simp, h, hw.room⟩
theorem WF.drop {room n : Nat} {free : List Nat} {h : Nat} (hw : WF room n free) (h1 : 1 ≤ h) (h2 : h ≤ n) (hu : useB free (h - 1) = true) : WF room n (free ++ [h]) := by
  have e : h - 1 + 1 = h := by omega
  have hn : h ∉ free := by simpa [useB, e] using hu
  refine ⟨List.nodup_append.2 ⟨hw.nodup, by simp, fun a ha b hb => ?_⟩, fun x hx => ?_, hw.le, hw.room⟩
  · simp at hb; subst hb; intro e; subst e; exact hn ha
  · rcases List.mem_append.1 hx with hx | hx
    · exact hw.mem x hx
    · simp at hx; subst hx; exact ⟨h1, h2⟩
theorem WF.new {room : Nat} (h : room ≤ 4096) : WF room 0 [] := ⟨by simp, by simp, Nat.zero_le _, h⟩

/-- An arena in memory: four labels from L on. -/
def Ar (TA E size : Nat) (w : World) (o : Nat → Nat) (L p room n : Nat) (cs : List Value) (free : List Nat) : Prop :=
  ∃ vt vi vf, Blk w o L p (.cells #[.int .i64 room, vt, vi, vf] TA (0, 0)) ∧ Row w o (L + 1) E size vt n cs ∧ Row w o (L + 2) 4 1 vi n (usedL n free) ∧ Row w o (L + 3) 3 1 vf free.length (intsL free) ∧ WF room n free

def IL (L : Nat) : Nat → Prop := fun k => L ≤ k ∧ k < L + 4
theorem Ar.step {TA E size : Nat} {I : Nat → Prop} {w w' : World} {o o' : Nat → Nat} {L p room n : Nat} {cs : List Value} {free : List Nat} (h : Ar TA E size w o L p room n cs free) (s : Step I w o w' o') (hi : ∀ k, IL L k → ¬ I k) : Ar TA E size w' o' L p room n cs free := by
  obtain ⟨vt, vi, vf, h0, h1, h2, h3, h4⟩ := h
  exact ⟨vt, vi, vf, h0.step s (hi _ ⟨by omega, by omega⟩), h1.step s (hi _ ⟨by omega, by omega⟩), h2.step s (hi _ ⟨by omega, by omega⟩), h3.step s (hi _ ⟨by omega, by omega⟩), h4⟩
theorem Ar.wf {TA E size : Nat} {w : World} {o : Nat → Nat} {L p room n : Nat} {cs : List Value} {free : List Nat} (h : Ar TA E size w o L p room n cs free) : WF room n free := by
  obtain ⟨vt, vi, vf, h0, h1, h2, h3, h4⟩ := h
  exact h4
theorem Ar.lt {TA E size : Nat} {w : World} {o : Nat → Nat} {L p room n : Nat} {cs : List Value} {free : List Nat} (h : Ar TA E size w o L p room n cs free) : p < w.heap.size := by
  obtain ⟨vt, vi, vf, h0, _⟩ := h
  exact h0.lt

theorem Blk.set {w : World} {o : Nat → Nat} {i b : Nat} {cs : Array Value} {t : TypeId} (h : Blk w o i b (.cells cs t (0, 0))) (j : Nat) (u : Value) : Blk (w.setCell ⟨b, j, none⟩ u) o i b (.cells (cs.setIfInBounds j u) t (0, 0)) :=
  ⟨heap_setCell_same w b j cs t u h.1, h.2⟩
theorem setStep (I : Nat → Prop) (w : World) (o : Nat → Nat) (p : Addr) (u : Value) (hp : I (o p.block)) : Step I w o (w.setCell p u) o := (Step.refl I w o).setCell p u hp
theorem IL.mk {L k : Nat} (h1 : L ≤ k) (h2 : k < L + 4) : IL L k := ⟨h1, h2⟩

theorem allocStep (I : Nat → Prop) (w : World) (o : Nat → Nat) (ob : Obj) : Step I w o (w.alloc ob) o := (Step.refl I w o).alloc ob

theorem Ar.drewN {TA E size : Nat} {w : World} {o : Nat → Nat} {L p room n : Nat} {cs : List Value} {free : List Nat} (h : Ar TA E size w o L p room n cs free) (m : Nat) : Ar TA E size (w.drewN m) o L p room n cs free := h

/-- A new arena. -/
theorem Ar.new {TA E size : Nat} {w : World} {o : Nat → Nat} {L room : Nat} (hr : room ≤ 4096) :
    Ar TA E size (w.alloc (.cells #[.int .i64 room, .slice none 0 0, .slice none 0 0, .slice none 0 0] TA)) (newLab w o L) L w.heap.size room 0 [] [] :=
  ⟨_, _, _, ⟨heap_alloc_new w _, newLab_new (Nat.le_refl _)⟩, Row.nil _ _ _ _ _, Row.nil _ _ _ _ _, Row.nil _ _ _ _ _, WF.new hr⟩
theorem newStep (I : Nat → Prop) (w : World) (o : Nat → Nat) (L : Nat) (ob : Obj) : Step I w o (w.alloc ob) (newLab w o L) :=
  ⟨rfl, rfl, rfl, by simp, fun k hk => newLab_old hk, fun k hk _ => Below.heap_alloc w ob k hk⟩

end Go.Proofs.YtojleoionpnjpaaGreatDoor
namespace Go.Proofs.YtojleoionpnjpaaGreatDoor
open Go.ChangeShapes Go.WideShapes Go.ChangeAt Go.RowKit
set_option linter.unusedVariables false

/-- What a walk reads of an arena's block. -/
theorem Blk.cells4 {w : World} {o : Nat → Nat} {i b : Nat} {a0 a1 a2 a3 : Value} {t : TypeId} (h : Blk w o i b (.cells #[a0, a1, a2, a3] t (0, 0))) :
    w.cell? ⟨b, 0, none⟩ = some a0 ∧ w.cell? ⟨b, 1, none⟩ = some a1 ∧ w.cell? ⟨b, 2, none⟩ = some a2 ∧ w.cell? ⟨b, 3, none⟩ = some a3 ∧ ∀ j, w.frozen? ⟨b, j, none⟩ = false := by
  refine ⟨?_, ?_, ?_, ?_, fun j => frozen_of_row w b j _ t h.1⟩ <;> simp [cell_of_row w b _ _ t (0, 0) h.1]


end Go.Proofs.YtojleoionpnjpaaGreatDoor
namespace Go.Proofs.YtojleoionpnjpaaGreatDoor
open Go.ChangeShapes Go.WideShapes Go.ChangeAt Go.RowKit
set_option linter.unusedVariables false

theorem ext_list (s : ByteArray) (a b : Nat) : (s.extract a b).data.toList = (s.data.toList.drop a).take (b - a) := by
  rw [ByteArray.data_extract, Array.toList_extract, List.extract_eq_take_drop]
theorem ext_eq (s : ByteArray) (a b : Nat) : s.extract a b = ⟨((s.data.toList.drop a).take (b - a)).toArray⟩ := by
  rw [← ext_list, back_text]
theorem drop_at (l : List UInt8) (pos : Nat) (h : pos < l.length) : l.drop pos = l[pos] :: l.drop (pos + 1) := List.drop_eq_getElem_cons h
theorem Step.ofBelow {I : Nat → Prop} {w w' : World} (o : Nat → Nat) (h : Below w.heap.size w w') : Step I w o w' o := ⟨h.os, h.tape, h.output, h.size, fun _ _ => rfl, fun k hk _ => h.block k hk⟩
theorem info_parts {P : Program} {t : TypeId} {z : Option Value} {s b : Nat} (h : (P.info? t).map (fun i => (i.zero, i.size, i.bytes)) = some (z, s, b)) : ∃ i, P.info? t = some i ∧ i.zero = z ∧ i.size = s ∧ i.bytes = b := by
  cases hi : P.info? t with
  | none => rw [hi] at h; cases h
  | some i =>
    rw [hi] at h
    injection h with h
    exact ⟨i, rfl, (congrArg (·.1) h), (congrArg (·.2.1) h), (congrArg (·.2.2) h)⟩
theorem Blk.cells3 {w : World} {o : Nat → Nat} {i b : Nat} {a0 a1 a2 : Value} {t : TypeId} (h : Blk w o i b (.cells #[a0, a1, a2] t (0, 0))) :
    w.cell? ⟨b, 0, none⟩ = some a0 ∧ w.cell? ⟨b, 1, none⟩ = some a1 ∧ w.cell? ⟨b, 2, none⟩ = some a2 ∧ ∀ j, w.frozen? ⟨b, j, none⟩ = false := by
  refine ⟨?_, ?_, ?_, fun j => frozen_of_row w b j _ t h.1⟩ <;> simp [cell_of_row w b _ _ t (0, 0) h.1]
theorem new_four_at {w : World} {s : Nat} (hs : w.heap.size = s) (x y z q : Value) (t : TypeId) : ∀ j u, [x, y, z, q][j]? = some u → (w.alloc (.cells #[x, y, z, q] t)).cell? ((⟨s, 0, none⟩ : Addr).add j) = some u := by
  subst hs
  intro j u hj
  match j, hj with
  | 0, hj => simp at hj; subst hj; simp [Addr.add]
  | 1, hj => simp at hj; subst hj; simp [Addr.add]
  | 2, hj => simp at hj; subst hj; simp [Addr.add]
  | 3, hj => simp at hj; subst hj; simp [Addr.add]
end Go.Proofs.YtojleoionpnjpaaGreatDoor
namespace Go.Proofs.YtojleoionpnjpaaGreatDoor
open Go.ChangeShapes Go.WideShapes Go.ChangeAt Go.RowKit
set_option linter.unusedVariables false

theorem infoToken : (Tryz.prog.info? 46).map (fun i => (i.zero, i.size, i.bytes)) = some (some (.agg #[.int .i64 0, .int .i64 0, .string ⟨#[]⟩, .int .i64 0]), 4, 40) := by kernel_rfl
/-- The cells of tokens. -/
def tcells (ts : List Tk) : List Value := ts.flatMap fun x => [.int .i64 (x.k : Nat), .int .i64 x.n, .string ⟨x.t.toArray⟩, .int .i64 (x.a : Nat)]
theorem tcells_more (ts : List Tk) (x : Tk) : tcells (ts ++ [x]) = tcells ts ++ [.int .i64 (x.k : Nat), .int .i64 x.n, .string ⟨x.t.toArray⟩, .int .i64 (x.a : Nat)] := by
  simp [tcells]
theorem tcells_at : ∀ (ts : List Tk) (i : Nat) (h : i < ts.length), (tcells ts)[i * 4]? = some (.int .i64 ((ts[i]).k : Nat)) ∧ (tcells ts)[i * 4 + 1]? = some (.int .i64 (ts[i]).n) ∧ (tcells ts)[i * 4 + 2]? = some (.string ⟨(ts[i]).t.toArray⟩) ∧ (tcells ts)[i * 4 + 3]? = some (.int .i64 ((ts[i]).a : Nat))
  | [], i, h => by cases h
  | p :: r, 0, h => ⟨rfl, rfl, rfl, rfl⟩
  | p :: r, i + 1, h => by
    have e : tcells (p :: r) = .int .i64 (p.k : Nat) :: .int .i64 p.n :: .string ⟨p.t.toArray⟩ :: .int .i64 (p.a : Nat) :: tcells r := rfl
    have e1 : (i + 1) * 4 = i * 4 + 1 + 1 + 1 + 1 := by omega
    have ih := tcells_at r i (by simpa using h)
    rw [e, e1]
    exact ih
/-- Tokens, and X behind them. -/
def preR : List Tk → Res → Res
  | [], X => X
  | x :: r, X => consR x (preR r X)
theorem preR_more (ts : List Tk) (x : Tk) (X : Res) : preR (ts ++ [x]) X = preR ts (consR x X) := by
  induction ts with
  | nil => rfl
  | cons y r ih => simp only [List.cons_append, preR, ih]
theorem preR_inl (ts : List Tk) (e : Nat × Nat) : preR ts (.inl e) = .inl e := by
  induction ts with
  | nil => rfl
  | cons y r ih => simp only [preR, ih]; rfl
theorem preR_inr (ts us : List Tk) : preR ts (.inr us) = .inr (ts ++ us) := by
  induction ts with
  | nil => rfl
  | cons y r ih => simp only [preR, ih]; rfl
theorem ptok_err {k : Nat} {t : List UInt8} {a e : Nat} (h : ptok k t a = .inl e) : e = 110 ∨ e = 111 ∨ e = 112 := by
  unfold ptok at h
  split at h
  · unfold wrdT at h
    repeat' split at h
    all_goals first | (injection h with h; omega) | cases h
  · unfold numT at h
    repeat' split at h
    all_goals first | (injection h with h; omega) | cases h
  · unfold sgnT at h
    split at h
    all_goals first | (injection h with h; omega) | cases h
  · injection h with h
    omega
/-- What Scan answers: tokens that are new memory, or an error and its place. -/
def ScanOut (w w' : World) (v : Value) (er at0 : Int) (R : Res) : Prop :=
  (∃ e p, R = .inl (e, p) ∧ v = .slice none 0 0 ∧ er = (e : Nat) ∧ at0 = (p : Nat)) ∨ (∃ ts, R = .inr ts ∧ er = 0 ∧ at0 = 0 ∧ w'.ownsRow w.heap.size 46 4 v ts.length (tcells ts))
theorem Row.fresh {I : Nat → Prop} {w w' : World} {o' : Nat → Nat} {i : Nat} {e : TypeId} {size : Nat} {v : Value} {n : Nat} {xs : List Value} (r : Row w' o' (i + 1) e size v n xs) (s : Step I w (fun _ => 0) w' o') : w'.ownsRow w.heap.size e size v n xs := by
  refine ⟨r.1.1, ?_⟩
  rcases r.1.2 with h | ⟨g, cap, cur, rfl, hb, rest⟩
  · exact .inl h
  · refine .inr ⟨g, cap, cur, rfl, ?_, rest⟩
    by_cases hg : g < w.heap.size
    · have h1 := s.lab g hg
      have h2 := r.2 g rfl
      omega
    · omega
end Go.Proofs.YtojleoionpnjpaaGreatDoor
namespace Go.Proofs.YtojleoionpnjpaaGreatDoor
open Go.ChangeShapes Go.WideShapes Go.ChangeAt Go.RowKit
set_option linter.unusedVariables false

theorem bdr {B : Nat} {w w' : World} (h : Below B w w') (n : Nat) : Below B w (w'.drewN n) := ⟨h.os, h.tape, h.output, h.size, h.block⟩
end Go.Proofs.YtojleoionpnjpaaGreatDoor
namespace Go.Proofs.YtojleoionpnjpaaGreatDoor
open Go.ChangeShapes Go.WideShapes Go.ChangeAt Go.RowKit
set_option linter.unusedVariables false

/-- A slice that reads as tokens. -/
def Tks (w : World) (v : Value) (ts : List Tk) : Prop :=
  ∃ ao cap, v = .slice ao ts.length cap ∧ (0 < ts.length → ∃ g, ao = some ⟨g, 0, none⟩ ∧ g < w.heap.size ∧ ∀ j, j < ts.length * 4 → w.cell? ⟨g, j, none⟩ = (tcells ts)[j]?)
theorem Tks.of {w : World} {b : Nat} {v : Value} {ts : List Tk} (h : w.ownsRow b 46 4 v ts.length (tcells ts)) : Tks w v ts := by
  have r : Row w (fun _ => 0) 0 46 4 v ts.length (tcells ts) := ⟨ownsRow_base0 h, fun _ _ => rfl⟩
  by_cases h0 : 0 < ts.length
  · obtain ⟨g, cap, rfl, _, _, _, hlt, hc, _⟩ := r.pos h0
    exact ⟨_, _, rfl, fun _ => ⟨g, rfl, hlt, hc⟩⟩
  · obtain ⟨ao, cap, rfl⟩ := r.form
    exact ⟨ao, cap, rfl, fun h => absurd h h0⟩
theorem Tks.nil (w : World) : Tks w (.slice none 0 0) [] := ⟨none, 0, rfl, fun h => by cases h⟩
theorem Tks.below {w w' : World} {v : Value} {ts : List Tk} (h : Tks w v ts) (b : Below w.heap.size w w') : Tks w' v ts := by
  obtain ⟨ao, cap, rfl, hx⟩ := h
  refine ⟨ao, cap, rfl, fun h0 => ?_⟩
  obtain ⟨g, rfl, hlt, hc⟩ := hx h0
  exact ⟨g, rfl, Nat.lt_of_lt_of_le hlt b.size, fun j hj => (b.cell (p := ⟨g, j, none⟩) hlt).trans (hc j hj)⟩
/-- What is read of one token. -/
theorem Tks.at {w : World} {v : Value} {ts : List Tk} (h : Tks w v ts) (i : Nat) (hi : i < ts.length) : ∃ g cap, v = .slice (some ⟨g, 0, none⟩) ts.length cap ∧
    w.cell? ⟨g, i * 4, none⟩ = some (.int .i64 ((ts[i]).k : Nat)) ∧ w.cell? ⟨g, i * 4 + 1, none⟩ = some (.int .i64 (ts[i]).n) ∧ w.cell? ⟨g, i * 4 + 2, none⟩ = some (.string ⟨(ts[i]).t.toArray⟩) ∧ w.cell? ⟨g, i * 4 + 3, none⟩ = some (.int .i64 ((ts[i]).a : Nat)) := by
  obtain ⟨ao, cap, rfl, hx⟩ := h
  obtain ⟨g, rfl, hlt, hc⟩ := hx (by omega)
  obtain ⟨p0, p1, p2, p3⟩ := tcells_at ts i hi
  exact ⟨g, cap, rfl, (hc _ (by omega)).trans p0, (hc _ (by omega)).trans p1, (hc _ (by omega)).trans p2, (hc _ (by omega)).trans p3⟩
theorem ScanOut.inr {w w' : World} {v : Value} {er at0 : Int} {R : Res} {ts : List Tk} (h : ScanOut w w' v er at0 R) (hR : R = .inr ts) : er = 0 ∧ at0 = 0 ∧ w'.ownsRow w.heap.size 46 4 v ts.length (tcells ts) := by
  rcases h with ⟨e, p, h1, _⟩ | ⟨us, h1, h2, h3, h4⟩
  · rw [h1] at hR; cases hR
  · rw [h1] at hR
    injection hR with hR
    subst hR
    exact ⟨h2, h3, h4⟩
theorem ScanOut.inl {w w' : World} {v : Value} {er at0 : Int} {R : Res} {e p : Nat} (h : ScanOut w w' v er at0 R) (hR : R = .inl (e, p)) : er = (e : Nat) ∧ at0 = (p : Nat) ∧ v = .slice none 0 0 := by
  rcases h with ⟨e', p', h1, h2, h3, h4⟩ | ⟨us, h1, _⟩
  · rw [h1] at hR
    injection hR with hR
    injection hR with a b
    subst a b
    exact ⟨h3, h4, h2⟩
  · rw [h1] at hR; cases hR
end Go.Proofs.YtojleoionpnjpaaGreatDoor
namespace Go.Proofs.YtojleoionpnjpaaGreatDoor
open Go.ChangeShapes Go.WideShapes Go.ChangeAt Go.RowKit
set_option linter.unusedVariables false

/-- What a call of the reader's leaves alone: all old blocks but its own one. -/
structure Keep (rb : Nat) (w w' : World) : Prop where
  os : w'.os = w.os
  tape : w'.tape = w.tape
  output : w'.output = w.output
  size : w.heap.size ≤ w'.heap.size
  block : ∀ k, k < w.heap.size → k ≠ rb → w'.heap[k]? = w.heap[k]?
theorem Keep.refl (rb : Nat) (w : World) : Keep rb w w := ⟨rfl, rfl, rfl, Nat.le_refl _, fun _ _ _ => rfl⟩
theorem Keep.trans {rb : Nat} {a b c : World} (h : Keep rb a b) (k : Keep rb b c) : Keep rb a c :=
  ⟨k.os.trans h.os, k.tape.trans h.tape, k.output.trans h.output, Nat.le_trans h.size k.size, fun i hi hn => (k.block i (Nat.lt_of_lt_of_le hi h.size) hn).trans (h.block i hi hn)⟩
theorem Keep.ofBelow {rb : Nat} {w w' : World} (h : Below w.heap.size w w') : Keep rb w w' := ⟨h.os, h.tape, h.output, h.size, fun k hk _ => h.block k hk⟩
theorem Keep.alloc {rb : Nat} {a w : World} (h : Keep rb a w) (ob : Obj) : Keep rb a (w.alloc ob) :=
  h.trans ⟨rfl, rfl, rfl, by simp, fun k hk _ => Below.heap_alloc w ob k hk⟩
theorem Keep.drew {rb : Nat} {a w : World} (h : Keep rb a w) : Keep rb a w.drew := ⟨h.os, h.tape, h.output, h.size, h.block⟩
theorem Keep.set {rb : Nat} {a w : World} (h : Keep rb a w) (p : Addr) (u : Value) (hp : a.heap.size ≤ p.block ∨ p.block = rb) : Keep rb a (w.setCell p u) :=
  ⟨h.os, h.tape, h.output, by simpa using h.size, fun k hk hn => (heap_setCell_other w p k u (fun e => by
    rcases hp with hp | hp
    · omega
    · exact hn (e.trans hp))).trans (h.block k hk hn)⟩
theorem Keep.below {rb n : Nat} {w w' : World} (h : Keep rb w w') (hn : n ≤ rb) (hs : rb < w.heap.size) : Below n w w' := ⟨h.os, h.tape, h.output, h.size, fun k hk => h.block k (by omega) (by omega)⟩
theorem Keep.cell {rb : Nat} {w w' : World} (h : Keep rb w w') {b : Nat} (hb : b < w.heap.size) (hn : b ≠ rb) (j : Nat) : w'.cell? ⟨b, j, none⟩ = w.cell? ⟨b, j, none⟩ := World.cell?_of_block (a := ⟨b, j, none⟩) (h.block b hb hn)
theorem Keep.frozen {rb : Nat} {w w' : World} (h : Keep rb w w') {b : Nat} (hb : b < w.heap.size) (hn : b ≠ rb) (j : Nat) : w'.frozen? ⟨b, j, none⟩ = w.frozen? ⟨b, j, none⟩ := World.frozen?_of_block (a := ⟨b, j, none⟩) (h.block b hb hn)

/-- A text as a value. -/
abbrev stv (t : List UInt8) : Value := .string ⟨t.toArray⟩
/-- The cells of trees in a row; all that lies below them lies in blocks of P. -/
def Fc (w : World) (P : Nat → Prop) : Fs → List Value → Prop
  | ⟨none⟩, xs => xs = []
  | ⟨some ⟨k, n, nm, a, ks, r⟩⟩, xs => ∃ ao cap ys, xs = .int .i64 k :: .int .i64 n :: stv nm :: .slice ao ks.len cap :: .int .i64 a :: ys ∧
      (ks = .nil ∨ ∃ b off zs, ao = some ⟨b, off, none⟩ ∧ P b ∧ b < w.heap.size ∧ (∀ j u, zs[j]? = some u → w.cell? ⟨b, off + j, none⟩ = some u) ∧ Fc w P ks zs) ∧ Fc w P r ys
/-- A slice of trees. -/
def Sl (w : World) (P : Nat → Prop) (ks : Fs) (ao : Option Addr) : Prop :=
  ks = .nil ∨ ∃ b off zs, ao = some ⟨b, off, none⟩ ∧ P b ∧ b < w.heap.size ∧ (∀ j u, zs[j]? = some u → w.cell? ⟨b, off + j, none⟩ = some u) ∧ Fc w P ks zs
/-- The value of a tree. -/
def exV (e : Ex) (ao : Option Addr) (cap : Nat) : Value := .agg #[.int .i64 e.k, .int .i64 e.n, stv e.nm, .slice ao e.kids.len cap, .int .i64 e.a]
theorem Fc.len {w : World} {P : Nat → Prop} : ∀ {f : Fs} {xs : List Value}, Fc w P f xs → xs.length = f.len * 5
  | ⟨none⟩, xs, h => by
    have h : xs = [] := h
    subst h
    rfl
  | ⟨some ⟨k, n, nm, a, ks, r⟩⟩, xs, h => by
    obtain ⟨ao, cap, ys, rfl, _, h2⟩ := h
    have := Fc.len h2
    simp only [List.length_cons, Fs.len]
    omega
theorem Fc.mono {w w' : World} {P Q : Nat → Prop} (hb : ∀ k, P k → k < w.heap.size → w'.heap[k]? = w.heap[k]?) (hs : w.heap.size ≤ w'.heap.size) (hq : ∀ k, P k → k < w.heap.size → Q k) : ∀ {f : Fs} {xs : List Value}, Fc w P f xs → Fc w' Q f xs
  | ⟨none⟩, xs, h => h
  | ⟨some ⟨k, n, nm, a, ks, r⟩⟩, xs, h => by
    obtain ⟨ao, cap, ys, rfl, h1, h2⟩ := h
    refine ⟨ao, cap, ys, rfl, ?_, Fc.mono hb hs hq h2⟩
    rcases h1 with h1 | ⟨b, off, zs, rfl, hp, hlt, hc, h3⟩
    · exact .inl h1
    · exact .inr ⟨b, off, zs, rfl, hq b hp hlt, Nat.lt_of_lt_of_le hlt hs, fun j u hu => (World.cell?_of_block (a := ⟨b, off + j, none⟩) (hb b hp hlt)).trans (hc j u hu), Fc.mono hb hs hq h3⟩
theorem Sl.mono {w w' : World} {P Q : Nat → Prop} {f : Fs} {ao : Option Addr} (hb : ∀ k, P k → k < w.heap.size → w'.heap[k]? = w.heap[k]?) (hs : w.heap.size ≤ w'.heap.size) (hq : ∀ k, P k → k < w.heap.size → Q k) (h : Sl w P f ao) : Sl w' Q f ao := by
  rcases h with h | ⟨b, off, zs, rfl, hp, hlt, hc, h3⟩
  · exact .inl h
  · exact .inr ⟨b, off, zs, rfl, hq b hp hlt, Nat.lt_of_lt_of_le hlt hs, fun j u hu => (World.cell?_of_block (a := ⟨b, off + j, none⟩) (hb b hp hlt)).trans (hc j u hu), h3.mono hb hs hq⟩
/-- Blocks behind the reader's. -/
abbrev Past (rb : Nat) : Nat → Prop := fun b => rb < b
theorem Fc.keep {rb : Nat} {w w' : World} {f : Fs} {xs : List Value} (h : Fc w (Past rb) f xs) (k : Keep rb w w') : Fc w' (Past rb) f xs := h.mono (fun i hp hl => k.block i hl (Nat.ne_of_gt hp)) k.size (fun _ h _ => h)
theorem Sl.keep {rb : Nat} {w w' : World} {f : Fs} {ao : Option Addr} (h : Sl w (Past rb) f ao) (k : Keep rb w w') : Sl w' (Past rb) f ao := h.mono (fun i hp hl => k.block i hl (Nat.ne_of_gt hp)) k.size (fun _ h _ => h)
theorem Fc.app {w : World} {P : Nat → Prop} : ∀ {f g : Fs} {xs ys : List Value}, Fc w P f xs → Fc w P g ys → Fc w P (f.app g) (xs ++ ys)
  | ⟨none⟩, g, xs, ys, h, k => by
    have h : xs = [] := h
    subst h
    exact k
  | ⟨some ⟨i, n, nm, a, ks, r⟩⟩, g, xs, ys, h, k => by
    obtain ⟨ao, cap, zs, rfl, h1, h2⟩ := h
    exact ⟨ao, cap, zs ++ ys, rfl, h1, Fc.app h2 k⟩
theorem Fc.one {w : World} {P : Nat → Prop} {e : Ex} {ao : Option Addr} (cap : Nat) (h : Sl w P e.kids ao) : Fc w P (one e) [.int .i64 e.k, .int .i64 e.n, stv e.nm, .slice ao e.kids.len cap, .int .i64 e.a] := ⟨ao, cap, [], rfl, h, rfl⟩
theorem Sl.of {w : World} {P : Nat → Prop} {f : Fs} {b : Nat} {xs : List Value} (hp : P b) (hlt : b < w.heap.size) (hc : ∀ j u, xs[j]? = some u → w.cell? ⟨b, 0 + j, none⟩ = some u) (h : Fc w P f xs) : Sl w P f (some ⟨b, 0, none⟩) := .inr ⟨b, 0, xs, rfl, hp, hlt, hc, h⟩
theorem Sl.nil (w : World) (P : Nat → Prop) (ao : Option Addr) : Sl w P .nil ao := .inl rfl

/-- The reader in memory: what comes next, what is open. -/
def RdS (w : World) (rb o q : Nat) (ts : List Tk) : Prop :=
  ∃ g cap all i, w.heap[rb]? = some (.cells #[.slice (some ⟨g, 0, none⟩) (all : List Tk).length cap, .int .i64 ((i : Nat) : Int), .int .i64 (o : Nat), .int .i64 (q : Nat)] 77 (0, 0)) ∧ g + 3 < rb ∧ (∀ j u, (tcells all)[j]? = some u → w.cell? ⟨g, j, none⟩ = some u) ∧ all.drop i = ts ∧ i ≤ all.length ∧ all.length ≤ 3000 ∧ all.length ≤ cap ∧ cap ≤ maxLen
theorem RdS.lt {w : World} {rb o q : Nat} {ts : List Tk} (h : RdS w rb o q ts) : rb < w.heap.size := by
  obtain ⟨g, cap, all, i, h1, _⟩ := h
  exact lt_of_block h1
/-- Steps that leave the reader alone. -/
theorem RdS.below {w w' : World} {rb o q : Nat} {ts : List Tk} (h : RdS w rb o q ts) (b : Below w.heap.size w w') : RdS w' rb o q ts := by
  have hlt := h.lt
  obtain ⟨g, cap, all, i, h1, h2, h4, h5⟩ := h
  exact ⟨g, cap, all, i, (b.block rb hlt).trans h1, h2, fun j u hu => (b.cell (p := ⟨g, j, none⟩) (show g < w.heap.size by omega)).trans (h4 j u hu), h5⟩
/-- A store behind the reader. -/
theorem RdS.set {w : World} {rb o q : Nat} {ts : List Tk} (h : RdS w rb o q ts) (p : Addr) (v : Value) (hp : rb < p.block) : RdS (w.setCell p v) rb o q ts := by
  obtain ⟨g, cap, all, i, h1, h2, h4, h5⟩ := h
  exact ⟨g, cap, all, i, (heap_setCell_other w p rb v (by omega)).trans h1, h2, fun j u hu => (World.cell?_of_block (a := ⟨g, j, none⟩) (heap_setCell_other w p g v (by omega))).trans (h4 j u hu), h5⟩
theorem RdS.alloc {w : World} {rb o q : Nat} {ts : List Tk} (h : RdS w rb o q ts) (ob : Obj) : RdS (w.alloc ob) rb o q ts := h.below ((Below.refl _ w).alloc (Nat.le_refl _) ob)
theorem tkcells_at : ∀ (l : List Tk) (i : Nat) (x : Tk), l[i]? = some x → (tcells l)[i * 4]? = some (.int .i64 (x.k : Nat)) ∧ (tcells l)[i * 4 + 1]? = some (.int .i64 x.n) ∧ (tcells l)[i * 4 + 2]? = some (stv x.t) ∧ (tcells l)[i * 4 + 3]? = some (.int .i64 (x.a : Nat))
  | [], i, x, h => by simp at h
  | p :: r, 0, x, h => by
    simp at h
    subst h
    exact ⟨rfl, rfl, rfl, rfl⟩
  | p :: r, i + 1, x, h => by
    have e : tcells (p :: r) = .int .i64 (p.k : Nat) :: .int .i64 p.n :: stv p.t :: .int .i64 (p.a : Nat) :: tcells r := rfl
    have e1 : (i + 1) * 4 = i * 4 + 1 + 1 + 1 + 1 := by omega
    have ih := tkcells_at r i x (by simpa using h)
    rw [e, e1]
    exact ih
/-- Blocks that are new since. -/
abbrev Nw (n : Nat) : Nat → Prop := fun b => n ≤ b
theorem Sl.keepN {rb n : Nat} {w w' : World} {f : Fs} {ao : Option Addr} (h : Sl w (Nw n) f ao) (k : Keep rb w w') (hn : rb < n) : Sl w' (Nw n) f ao := h.mono (fun i hp hl => k.block i hl (by have hp : n ≤ i := hp; omega)) k.size (fun _ h _ => h)
theorem Sl.setN {n : Nat} {w : World} {f : Fs} {ao : Option Addr} (h : Sl w (Nw n) f ao) (p : Addr) (v : Value) (hp : p.block < n) : Sl (w.setCell p v) (Nw n) f ao := h.mono (fun i hp hl => heap_setCell_other w p i v (by have hp : n ≤ i := hp; omega)) (by simp) (fun _ h _ => h)
theorem Sl.allocN {n : Nat} {w : World} {f : Fs} {ao : Option Addr} (h : Sl w (Nw n) f ao) (ob : Obj) : Sl (w.alloc ob) (Nw n) f ao := h.mono (fun i hp hl => Below.heap_alloc w ob i hl) (by simp) (fun _ h _ => h)
theorem Sl.low {n m : Nat} {w : World} {f : Fs} {ao : Option Addr} (h : Sl w (Nw n) f ao) (hm : m ≤ n) : Sl w (Nw m) f ao := h.mono (fun i hp hl => rfl) (Nat.le_refl _) (fun i h _ => Nat.le_trans hm h)
theorem Fc.low {n m : Nat} {w : World} {f : Fs} {xs : List Value} (h : Fc w (Nw n) f xs) (hm : m ≤ n) : Fc w (Nw m) f xs := h.mono (fun i hp hl => rfl) (Nat.le_refl _) (fun i h _ => Nat.le_trans hm h)
theorem Fc.allocN {n : Nat} {w : World} {f : Fs} {xs : List Value} (h : Fc w (Nw n) f xs) (ob : Obj) : Fc (w.alloc ob) (Nw n) f xs := h.mono (fun i hp hl => Below.heap_alloc w ob i hl) (by simp) (fun _ h _ => h)
theorem Fc.setN {n : Nat} {w : World} {f : Fs} {xs : List Value} (h : Fc w (Nw n) f xs) (p : Addr) (v : Value) (hp : p.block < n) : Fc (w.setCell p v) (Nw n) f xs := h.mono (fun i hp hl => heap_setCell_other w p i v (by have hp : n ≤ i := hp; omega)) (by simp) (fun _ h _ => h)
theorem Fc.keepN {rb n : Nat} {w w' : World} {f : Fs} {xs : List Value} (h : Fc w (Nw n) f xs) (k : Keep rb w w') (hn : rb < n) : Fc w' (Nw n) f xs := h.mono (fun i hp hl => k.block i hl (by have hp : n ≤ i := hp; omega)) k.size (fun _ h _ => h)
end Go.Proofs.YtojleoionpnjpaaGreatDoor
