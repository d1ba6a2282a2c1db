/- Two rows of the table of types, and what a walk reads of a struct of four fields. -/
import Derived.Test.YtfpmaeflmboalaaGreatDoorMem
import Derived.Test.YtfpmaeflmboalaaGreatDoorRows
namespace Go.Proofs.YtfpmaeflmboalaaGreatDoor
open Go.ChangeShapes Go.WideShapes Go.ChangeAt Go.RowKit
set_option linter.unusedVariables false

/-- Is the handle i + 1 in use? -/
def useB (free : List Nat) (i : Nat) : Bool := !(free.contains (i + 1))
def usedL (n : Nat) (free : List Nat) : List Value := (List.range n).map fun i => .bool (useB free i)
def intsL (l : List Nat) : List Value := l.map fun h : Nat => .int .i64 (h : Int)
/-- Is h a handle in use? -/
def hasB (n : Nat) (free : List Nat) (h : Int) : Bool := decide (1 ≤ h) && decide (h ≤ n) && useB free (h.toNat - 1)

structure WF (room n : Nat) (free : List Nat) : Prop where
  nodup : free.Nodup
  mem : ∀ h ∈ free, 1 ≤ h ∧ h ≤ n
  le : n ≤ room
  room : room ≤ 4096

theorem len_le_of_nodup : ∀ (n : Nat) (free : List Nat), free.Nodup → (∀ h ∈ free, 1 ≤ h ∧ h ≤ n) → free.length ≤ n := by
  intro n
  induction n with
  | zero =>
    intro free _ hm
    cases free with
    | nil => simp
    | cons a l => have := hm a (by simp); omega
  | succ n ih =>
    intro free hn hm
    have h1 := ih (free.erase (n + 1)) (hn.erase _) (fun h hh => by
      have h2 := (hn.mem_erase_iff).1 hh
      have h3 := hm h h2.2
      exact ⟨h3.1, by have := h2.1; omega⟩)
    rw [List.length_erase] at h1
    split at h1 <;> omega

theorem WF.free_le {room n : Nat} {free : List Nat} (h : WF room n free) : free.length ≤ n := len_le_of_nodup n free h.nodup h.mem

theorem count_used : ∀ (n : Nat) (free : List Nat), free.Nodup → (∀ h ∈ free, 1 ≤ h ∧ h ≤ n) → ((List.range n).filter (useB free)).length = n - free.length := by
  intro n
  induction n with
  | zero =>
    intro free _ hm
    simp
  | succ n ih =>
    intro free hn hm
    have hm' : ∀ h ∈ free.erase (n + 1), 1 ≤ h ∧ h ≤ n := fun h hh => by
      have h2 := (hn.mem_erase_iff).1 hh
      have h3 := hm h h2.2
      exact ⟨h3.1, by have := h2.1; omega⟩
    have h1 := ih (free.erase (n + 1)) (hn.erase _) hm'
    have hle := len_le_of_nodup n _ (hn.erase (n + 1)) hm'
    have e : (List.range n).filter (useB free) = (List.range n).filter (useB (free.erase (n + 1))) := by
      apply List.filter_congr
      intro i hi
      have hi' : i < n := by simpa using hi
      have : (i + 1 ∈ free) ↔ (i + 1 ∈ free.erase (n + 1)) := by
        rw [hn.mem_erase_iff]
        exact ⟨fun h => ⟨by omega, h⟩, fun h => h.2⟩
      simp [useB, List.contains_eq_mem, this]
    rw [List.range_succ, List.filter_append, List.length_append, e, h1]
    rw [List.length_erase] at hle ⊢
    by_cases hc : n + 1 ∈ free
    · have hl : 0 < free.length := List.length_pos_of_mem hc
      simp [useB, hc]
      simp [hc] at hle
      omega
    · simp [useB, hc]
      simp [hc] at hle
      omega

theorem usedL_length (n : Nat) (free : List Nat) : (usedL n free).length = n := by simp [usedL]
theorem usedL_get (n : Nat) (free : List Nat) (j : Nat) (h : j < n) : (usedL n free)[j]? = some (.bool (useB free j)) := by simp [usedL, h]
theorem intsL_length (l : List Nat) : (intsL l).length = l.length := by simp [intsL]
theorem intsL_get (l : List Nat) (j : Nat) (h : j < l.length) : (intsL l)[j]? = some (.int .i64 (l[j] : Nat)) := by simp [intsL, h]

theorem usedL_pop (n : Nat) (fs : List Nat) (h : Nat) (hw : (fs ++ [h]).Nodup) (h1 : 1 ≤ h) : (usedL n (fs ++ [h])).set (h - 1) (.bool true) = usedL n fs := by
  have hnf : h ∉ fs := fun hm => by
    have := List.nodup_append.1 hw
    exact this.2.2 h hm h (by simp) rfl
  apply List.ext_getElem?
  intro j
  rw [List.getElem?_set]
  by_cases hj : j < n
  · rw [usedL_get _ _ _ hj, usedL_get _ _ _ hj]
    by_cases e : h - 1 = j
    · subst e
      have : h - 1 + 1 = h := by omega
      simp [useB, this, hnf, usedL_length, hj]
    · have : j + 1 ≠ h := by omega
      simp [e, useB, this]
  · have e1 : (usedL n (fs ++ [h]))[j]? = none := by simp [usedL]; omega
    have e2 : (usedL n fs)[j]? = none := by simp [usedL]; omega
    rw [e1, e2]
    simp [usedL_length]
    omega

theorem usedL_drop (n : Nat) (free : List Nat) (h : Nat) (h1 : 1 ≤ h) : (usedL n free).set (h - 1) (.bool false) = usedL n (free ++ [h]) := by
  apply List.ext_getElem?
  intro j
  rw [List.getElem?_set]
  by_cases hj : j < n
  · rw [usedL_get _ _ _ hj, usedL_get _ _ _ hj]
    by_cases e : h - 1 = j
    · subst e
      have : h - 1 + 1 = h := by omega
      simp [useB, this, usedL_length, hj]
    · have : j + 1 ≠ h := by omega
      simp [e, useB, this]
  · have e1 : (usedL n (free ++ [h]))[j]? = none := by simp [usedL]; omega
    have e2 : (usedL n free)[j]? = none := by simp [usedL]; omega
    rw [e1, e2]
    simp [usedL_length]
    omega

theorem usedL_push (n : Nat) : usedL n [] ++ [.bool true] = usedL (n + 1) [] := by
  simp [usedL, List.range_succ, useB]

theorem WF.pop {room n : Nat} {fs : List Nat} {h : Nat} (hw : WF room n (fs ++ [h])) : WF room n fs :=
  ⟨(List.nodup_append.1 hw.nodup).1, fun x hx => hw.mem x (by simp [hx]), hw.le, hw.room⟩
theorem WF.last {room n : Nat} {fs : List Nat} {h : Nat} (hw : WF room n (fs ++ [h])) : 1 ≤ h ∧ h ≤ n := hw.mem h (by simp)
theorem WF.push {room n : Nat} (hw : WF room n []) (h : n < room) : WF room (n + 1) [] := ⟨by simp, by simp, h, hw.room⟩
theorem WF.drop {room n : Nat} {free : List Nat} {h : Nat} (hw : WF room n free) (h1 : 1 ≤ h) (h2 : h ≤ n) (hu : useB free (h - 1) = true) : WF room n (free ++ [h]) := by
  have e : h - 1 + 1 = h := by omega
  have hn : h ∉ free := by simpa [useB, e] using hu
  refine ⟨List.nodup_append.2 ⟨hw.nodup, by simp, fun a ha b hb => ?_⟩, fun x hx => ?_, hw.le, hw.room⟩
  · simp at hb; subst hb; intro e; subst e; exact hn ha
  · rcases List.mem_append.1 hx with hx | hx
    · exact hw.mem x hx
    · simp at hx; subst hx; exact ⟨h1, h2⟩
theorem WF.new {room : Nat} (h : room ≤ 4096) : WF room 0 [] := ⟨by simp, by simp, Nat.zero_le _, h⟩

/-- An arena in memory: four labels from L on. -/
def Ar (TA E size : Nat) (w : World) (o : Nat → Nat) (L p room n : Nat) (cs : List Value) (free : List Nat) : Prop :=
  ∃ vt vi vf, Blk w o L p (.cells #[.int .i64 room, vt, vi, vf] TA (0, 0)) ∧ Row w o (L + 1) E size vt n cs ∧ Row w o (L + 2) 4 1 vi n (usedL n free) ∧ Row w o (L + 3) 3 1 vf free.length (intsL free) ∧ WF room n free

def IL (L : Nat) : Nat → Prop := fun k => L ≤ k ∧ k < L + 4
theorem Ar.step {TA E size : Nat} {I : Nat → Prop} {w w' : World} {o o' : Nat → Nat} {L p room n : Nat} {cs : List Value} {free : List Nat} (h : Ar TA E size w o L p room n cs free) (s : Step I w o w' o') (hi : ∀ k, IL L k → ¬ I k) : Ar TA E size w' o' L p room n cs free := by
  obtain ⟨vt, vi, vf, h0, h1, h2, h3, h4⟩ := h
  exact ⟨vt, vi, vf, h0.step s (hi _ ⟨by omega, by omega⟩), h1.step s (hi _ ⟨by omega, by omega⟩), h2.step s (hi _ ⟨by omega, by omega⟩), h3.step s (hi _ ⟨by omega, by omega⟩), h4⟩
theorem Ar.wf {TA E size : Nat} {w : World} {o : Nat → Nat} {L p room n : Nat} {cs : List Value} {free : List Nat} (h : Ar TA E size w o L p room n cs free) : WF room n free := by
  obtain ⟨vt, vi, vf, h0, h1, h2, h3, h4⟩ := h
  exact h4
theorem Ar.lt {TA E size : Nat} {w : World} {o : Nat → Nat} {L p room n : Nat} {cs : List Value} {free : List Nat} (h : Ar TA E size w o L p room n cs free) : p < w.heap.size := by
  obtain ⟨vt, vi, vf, h0, _⟩ := h
  exact h0.lt

theorem Blk.set {w : World} {o : Nat → Nat} {i b : Nat} {cs : Array Value} {t : TypeId} (h : Blk w o i b (.cells cs t (0, 0))) (j : Nat) (u : Value) : Blk (w.setCell ⟨b, j, none⟩ u) o i b (.cells (cs.setIfInBounds j u) t (0, 0)) :=
  ⟨heap_setCell_same w b j cs t u h.1, h.2⟩
theorem setStep (I : Nat → Prop) (w : World) (o : Nat → Nat) (p : Addr) (u : Value) (hp : I (o p.block)) : Step I w o (w.setCell p u) o := (Step.refl I w o).setCell p u hp
theorem IL.mk {L k : Nat} (h1 : L ≤ k) (h2 : k < L + 4) : IL L k := ⟨h1, h2⟩

/-- What 'give' leaves, where a handle was free. -/
theorem Ar.popped {TA E size : Nat} {w : World} {o : Nat → Nat} {L p room n gi ci gf cf : Nat} {vt : Value} {cs : List Value} {fs : List Nat} {k : Nat}
    (h0 : Blk w o L p (.cells #[.int .i64 room, vt, .slice (some ⟨gi, 0, none⟩) n ci, .slice (some ⟨gf, 0, none⟩) (fs.length + 1) cf] TA (0, 0)))
    (h1 : Row w o (L + 1) E size vt n cs) (h2 : Row w o (L + 2) 4 1 (.slice (some ⟨gi, 0, none⟩) n ci) n (usedL n (fs ++ [k + 1])))
    (h3 : Row w o (L + 3) 3 1 (.slice (some ⟨gf, 0, none⟩) (fs.length + 1) cf) (fs.length + 1) (intsL (fs ++ [k + 1]))) (h4 : WF room n (fs ++ [k + 1])) :
    Ar TA E size ((w.setCell ⟨p, 3, none⟩ (.slice (some ⟨gf, 0, none⟩) fs.length cf)).setCell ⟨gi, k, none⟩ (.bool true)) o L p room n cs fs ∧
      Step (IL L) w o ((w.setCell ⟨p, 3, none⟩ (.slice (some ⟨gf, 0, none⟩) fs.length cf)).setCell ⟨gi, k, none⟩ (.bool true)) o := by
  have s1 := setStep (fun x => x = L) w o ⟨p, 3, none⟩ (.slice (some ⟨gf, 0, none⟩) fs.length cf) h0.2
  have g0 := h0.set 3 (.slice (some ⟨gf, 0, none⟩) fs.length cf)
  have g1 := h1.step s1 (by omega)
  have g2 := h2.step s1 (by omega)
  have g3 := (h3.cut fs.length (by omega)).step s1 (by omega)
  have s2 := setStep (fun x => x = L + 2) (w.setCell ⟨p, 3, none⟩ (.slice (some ⟨gf, 0, none⟩) fs.length cf)) o ⟨gi, k, none⟩ (.bool true) (h2.2 gi rfl)
  refine ⟨⟨vt, _, _, g0.step s2 (by omega), g1.step s2 (by omega), ?_, ?_, h4.pop⟩, (s1.mono fun x hx => IL.mk (by omega) (by omega)).trans (s2.mono fun x hx => IL.mk (by omega) (by omega))⟩
  · have := g2.store k (.bool true)
    have e := usedL_pop n fs (k + 1) h4.nodup (by omega)
    rw [Nat.add_sub_cancel] at e
    rwa [e] at this
  · have e : (intsL (fs ++ [k + 1])).take (fs.length * 1) = intsL fs := by simp [intsL]
    rw [e] at g3
    exact g3.step s2 (by omega)

theorem allocStep (I : Nat → Prop) (w : World) (o : Nat → Nat) (ob : Obj) : Step I w o (w.alloc ob) o := (Step.refl I w o).alloc ob

/-- What 'give' leaves, where none was free. -/
theorem Ar.pushed {TA E size : Nat} {w w1 w2 : World} {o o1 o2 : Nat → Nat} {L p room n g cap g2 cap2 cf : Nat} {af : Option Addr} {vt vi : Value} {cs : List Value} {z : List Value}
    (h0 : Blk w o L p (.cells #[.int .i64 room, vt, vi, .slice af 0 cf] TA (0, 0))) (h3 : Row w o (L + 3) 3 1 (.slice af 0 cf) 0 (intsL [])) (h4 : WF room n []) (hroom : n < room)
    (hr1 : Row w1 o1 (L + 1) E size (.slice (some ⟨g, 0, none⟩) (n + 1) cap) (n + 1) (cs ++ z)) (sA : Step (fun k => k = L + 1) w o w1 o1)
    (hr2 : Row w2 o2 (L + 2) 4 1 (.slice (some ⟨g2, 0, none⟩) (n + 1) cap2) (n + 1) (usedL n [] ++ [.bool true])) (sC : Step (fun k => k = L + 2) (w1.setCell ⟨p, 1, none⟩ (.slice (some ⟨g, 0, none⟩) (n + 1) cap)) o1 w2 o2) :
    Ar TA E size (w2.setCell ⟨p, 2, none⟩ (.slice (some ⟨g2, 0, none⟩) (n + 1) cap2)) o2 L p room (n + 1) (cs ++ z) [] ∧
      Step (IL L) w o (w2.setCell ⟨p, 2, none⟩ (.slice (some ⟨g2, 0, none⟩) (n + 1) cap2)) o2 := by
  have k0 := h0.step sA (by omega)
  have k3 := h3.step sA (by omega)
  have sB := setStep (fun x => x = L) w1 o1 ⟨p, 1, none⟩ (.slice (some ⟨g, 0, none⟩) (n + 1) cap) k0.2
  have m0 := k0.set 1 (.slice (some ⟨g, 0, none⟩) (n + 1) cap)
  have n0 := m0.step sC (by omega)
  have sD := setStep (fun x => x = L) w2 o2 ⟨p, 2, none⟩ (.slice (some ⟨g2, 0, none⟩) (n + 1) cap2) n0.2
  rw [usedL_push] at hr2
  refine ⟨⟨_, _, _, n0.set 2 _, ((hr1.step sB (by omega)).step sC (by omega)).step sD (by omega), hr2.step sD (by omega), ((k3.step sB (by omega)).step sC (by omega)).step sD (by omega), h4.push hroom⟩, ?_⟩
  exact (((sA.mono fun x hx => IL.mk (by omega) (by omega)).trans (sB.mono fun x hx => IL.mk (by omega) (by omega))).trans (sC.mono fun x hx => IL.mk (by omega) (by omega))).trans (sD.mono fun x hx => IL.mk (by omega) (by omega))

theorem Ar.drewN {TA E size : Nat} {w : World} {o : Nat → Nat} {L p room n : Nat} {cs : List Value} {free : List Nat} (h : Ar TA E size w o L p room n cs free) (m : Nat) : Ar TA E size (w.drewN m) o L p room n cs free := h

/-- One thing, opened: where it lies, and what a store there leaves. -/
theorem Ar.open1 {TA E : Nat} {w : World} {o : Nat → Nat} {L p room n : Nat} {cs : List Value} {free : List Nat} (h : Ar TA E 1 w o L p room n cs free) (k : Nat) (hk : k < n) :
    ∃ g cap, w.cell? ⟨p, 1, none⟩ = some (.slice (some ⟨g, 0, none⟩) n cap) ∧ w.cell? ⟨g, k, none⟩ = cs[k]? ∧ w.frozen? ⟨g, k, none⟩ = false ∧ n ≤ cap ∧ cap ≤ maxLen ∧
      (∀ u, Ar TA E 1 (w.setCell ⟨g, k, none⟩ u) o L p room n (cs.set k u) free ∧ Step (IL L) w o (w.setCell ⟨g, k, none⟩ u) o) := by
  obtain ⟨vt, vi, vf, h0, h1, h2, h3, h4⟩ := h
  obtain ⟨g, cap, rfl, hg, hc, hm, hlt, hcell, hfr⟩ := h1.pos (by omega)
  refine ⟨g, cap, by simp [cell_of_row w p _ _ TA (0, 0) h0.1], hcell k (by omega), hfr k, hc, hm, fun u => ?_⟩
  have s1 := setStep (fun x => x = L + 1) w o ⟨g, k, none⟩ u hg
  exact ⟨⟨_, vi, vf, h0.step s1 (by omega), h1.store k u, h2.step s1 (by omega), h3.step s1 (by omega), h4⟩, s1.mono fun x hx => IL.mk (by omega) (by omega)⟩

/-- What 'Drop' leaves. -/
theorem Ar.dropped {TA E : Nat} {w w2 : World} {o o2 : Nat → Nat} {L p room n gt ct gi ci g cap : Nat} {vf u : Value} {cs : List Value} {free : List Nat} {k : Nat} {X : Obj}
    (h0 : Blk w o L p (.cells #[.int .i64 room, .slice (some ⟨gt, 0, none⟩) n ct, .slice (some ⟨gi, 0, none⟩) n ci, vf] TA (0, 0)))
    (h1 : Row w o (L + 1) E 1 (.slice (some ⟨gt, 0, none⟩) n ct) n cs) (h2 : Row w o (L + 2) 4 1 (.slice (some ⟨gi, 0, none⟩) n ci) n (usedL n free))
    (h3 : Row w o (L + 3) 3 1 vf free.length (intsL free)) (h4 : WF room n free) (hk : k < n) (hu : useB free k = true)
    (hr : Row w2 o2 (L + 3) 3 1 (.slice (some ⟨g, 0, none⟩) (free.length + 1) cap) (free.length + 1) (intsL free ++ [.int .i64 (k + 1 : Nat)]))
    (hs : Step (fun x => x = L + 3) (((w.setCell ⟨gt, k, none⟩ u).setCell ⟨gi, k, none⟩ (.bool false)).alloc X) o w2 o2) :
    Ar TA E 1 (w2.setCell ⟨p, 3, none⟩ (.slice (some ⟨g, 0, none⟩) (free.length + 1) cap)) o2 L p room n (cs.set k u) (free ++ [k + 1]) ∧
      Step (IL L) w o (w2.setCell ⟨p, 3, none⟩ (.slice (some ⟨g, 0, none⟩) (free.length + 1) cap)) o2 := by
  have s1 := setStep (fun x => x = L + 1) w o ⟨gt, k, none⟩ u (h1.2 gt rfl)
  have s2 := setStep (fun x => x = L + 2) (w.setCell ⟨gt, k, none⟩ u) o ⟨gi, k, none⟩ (.bool false) (h2.2 gi rfl)
  have s3 := (allocStep (fun x => x = L + 3) ((w.setCell ⟨gt, k, none⟩ u).setCell ⟨gi, k, none⟩ (.bool false)) o X).trans hs
  have k0 := ((h0.step s1 (by omega)).step s2 (by omega)).step s3 (by omega)
  have s4 := setStep (fun x => x = L) w2 o2 ⟨p, 3, none⟩ (.slice (some ⟨g, 0, none⟩) (free.length + 1) cap) k0.2
  have k2 := (h2.step s1 (by omega)).store k (.bool false)
  have e := usedL_drop n free (k + 1) (by omega)
  rw [Nat.add_sub_cancel] at e
  rw [e] at k2
  have e2 : intsL free ++ [.int .i64 (k + 1 : Nat)] = intsL (free ++ [k + 1]) := by simp [intsL]
  rw [e2] at hr
  have e3 : free.length + 1 = (free ++ [k + 1]).length := by simp
  refine ⟨⟨_, _, _, k0.set 3 _, (((h1.store k u).step s2 (by omega)).step s3 (by omega)).step s4 (by omega), (k2.step s3 (by omega)).step s4 (by omega), ?_, h4.drop (h := k + 1) (by omega) (by omega) (by simpa using hu)⟩, ?_⟩
  · rw [← e3]; exact hr.step s4 (by omega)
  · exact (((s1.mono fun x hx => IL.mk (by omega) (by omega)).trans (s2.mono fun x hx => IL.mk (by omega) (by omega))).trans (s3.mono fun x hx => IL.mk (by omega) (by omega))).trans (s4.mono fun x hx => IL.mk (by omega) (by omega))

/-- A new arena. -/
theorem Ar.new {TA E size : Nat} {w : World} {o : Nat → Nat} {L room : Nat} (hr : room ≤ 4096) :
    Ar TA E size (w.alloc (.cells #[.int .i64 room, .slice none 0 0, .slice none 0 0, .slice none 0 0] TA)) (newLab w o L) L w.heap.size room 0 [] [] :=
  ⟨_, _, _, ⟨heap_alloc_new w _, newLab_new (Nat.le_refl _)⟩, Row.nil _ _ _ _ _, Row.nil _ _ _ _ _, Row.nil _ _ _ _ _, WF.new hr⟩
theorem newStep (I : Nat → Prop) (w : World) (o : Nat → Nat) (L : Nat) (ob : Obj) : Step I w o (w.alloc ob) (newLab w o L) :=
  ⟨rfl, rfl, rfl, by simp, fun k hk => newLab_old hk, fun k hk _ => Below.heap_alloc w ob k hk⟩

/-- The handles in use, rising. -/
def allL (n : Nat) (free : List Nat) : List Nat := ((List.range n).filter (useB free)).map (· + 1)
theorem allL_succ (k : Nat) (free : List Nat) : allL (k + 1) free = if useB free k = true then allL k free ++ [k + 1] else allL k free := by
  unfold allL
  rw [List.range_succ, List.filter_append]
  by_cases h : useB free k = true <;> simp [h]
theorem allL_le (k : Nat) (free : List Nat) : (allL k free).length ≤ k := by
  unfold allL
  rw [List.length_map]
  exact Nat.le_trans (List.length_filter_le _ _) (by simp)
theorem allL_count {room n : Nat} {free : List Nat} (h : WF room n free) : (allL n free).length = n - free.length := by
  unfold allL
  rw [List.length_map]
  exact count_used n free h.nodup h.mem

end Go.Proofs.YtfpmaeflmboalaaGreatDoor
namespace Go.Proofs.YtfpmaeflmboalaaGreatDoor
open Go.ChangeShapes Go.WideShapes Go.ChangeAt Go.RowKit
set_option linter.unusedVariables false

theorem infoBool : (Tryz.prog.info? 4).map (fun i => (i.zero, i.size, i.bytes)) = some (some (.bool false), 1, 1) := by kernel_rfl
theorem infoInt : (Tryz.prog.info? 3).map (fun i => (i.zero, i.size, i.bytes)) = some (some (.int .i64 0), 1, 8) := by kernel_rfl
/-- What a walk reads of an arena's block. -/
theorem Blk.cells4 {w : World} {o : Nat → Nat} {i b : Nat} {a0 a1 a2 a3 : Value} {t : TypeId} (h : Blk w o i b (.cells #[a0, a1, a2, a3] t (0, 0))) :
    w.cell? ⟨b, 0, none⟩ = some a0 ∧ w.cell? ⟨b, 1, none⟩ = some a1 ∧ w.cell? ⟨b, 2, none⟩ = some a2 ∧ w.cell? ⟨b, 3, none⟩ = some a3 ∧ ∀ j, w.frozen? ⟨b, j, none⟩ = false := by
  refine ⟨?_, ?_, ?_, ?_, fun j => frozen_of_row w b j _ t h.1⟩ <;> simp [cell_of_row w b _ _ t (0, 0) h.1]


end Go.Proofs.YtfpmaeflmboalaaGreatDoor
