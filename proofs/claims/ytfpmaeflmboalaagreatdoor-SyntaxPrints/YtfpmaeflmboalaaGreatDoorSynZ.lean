/- What the writer lays: a plain writer. No program. -/
import Derived.Test.YtfpmaeflmboalaaGreatDoorSynX
import Derived.Shelf.Strconv.Itoa3
import Derived.Lib.ItoaLen
import Derived.Lib.SmallJoins
import Derived.Lib.Small
import Derived.Lib.AppendIntMem
namespace Go.Proofs.YtfpmaeflmboalaaGreatDoor
open Go.ChangeShapes Go.WideShapes Go.ChangeAt Go.RowKit Go.Shelf
set_option linter.unusedVariables false
set_option linter.unusedSimpArgs false

/-- The library's table of powers. -/
def P10 (w : World) : Prop := Go.Lib.TabIs Tryz.prog w "internal/strconv.uint64pow10" .u64 Go.Lib.pow10Tab
theorem P10.below {w w' : World} (h : P10 w) (b : Below w.heap.size w w') : P10 w' := var_below atoiLay.m17 h b
theorem itoa_r (n : Int) (h0 : 0 ≤ n) (h1 : n ≤ 9223372036854775807) (w : World) (hP : P10 w) :
    Calls Tryz.prog 101 #[.int .i64 n] w fun e w' => e = .returned (stv (Go.Lib.itoa n)) ∧ Below w.heap.size w w' := by
  refine (Any.strconv_Itoa (P := Tryz.prog) (ρ := atoiLay_ren) { atoiLay with } n (by omega) h1 w hP).mono ?_
  rintro e w' ⟨rfl, k, os, rfl⟩
  exact ⟨rfl, Go.Lib.below_grow _ w (Nat.le_refl _) k os⟩
theorem ifbool_r (b : Bool) (w : World) : Calls Tryz.prog 120 #[.bool b] w fun e w' => e = .returned (stv (Go.Lib.formatBool b)) ∧ w' = w := by
  cases b
  · go_enter Tryz.func120, Tryz.ntmps120
    go_wp2
    go_ret
    exact ⟨rfl, rfl⟩
  · go_enter Tryz.func120, Tryz.ntmps120
    go_wp2
    go_ret
    exact ⟨rfl, rfl⟩
theorem fbool_r (b : Bool) (w : World) : Calls Tryz.prog 102 #[.bool b] w fun e w' => e = .returned (stv (Go.Lib.formatBool b)) ∧ w' = w := by
  have c := ifbool_r b w
  go_enter Tryz.func102, Tryz.ntmps102
  go_wp2_with fail
  refine c.mono ?_
  rintro e w' ⟨rfl, rfl⟩
  go_wp2
  go_ret
  exact ⟨rfl, rfl⟩
end Go.Proofs.YtfpmaeflmboalaaGreatDoor
namespace Go.Proofs.YtfpmaeflmboalaaGreatDoor
set_option linter.unusedVariables false
set_option linter.unusedSimpArgs false

/-- The writer: its text, what is open, how much at most; quantifiers likewise. -/
structure St where
  t : List UInt8
  a : Nat
  m : Nat
  b : Nat
  n : Nat
def St.lay (s : St) (x : List UInt8) : St := ⟨s.t ++ x, s.a, s.m, s.b, s.n⟩
def St.ent (s : St) : St := ⟨s.t, s.a + 1, max s.m (s.a + 1), s.b, s.n⟩
def St.lea (s : St) : St := ⟨s.t, s.a - 1, s.m, s.b, s.n⟩
def St.qent (s : St) : St := ⟨s.t, s.a, s.m, s.b + 1, max s.n (s.b + 1)⟩
def St.qlea (s : St) : St := ⟨s.t, s.a, s.m, s.b - 1, s.n⟩
def qword (n : Int) : List UInt8 := match quantOf n with | some x => x.1 | none => []
def cword (n : Int) : List UInt8 := match callOf n with | some x => x.1 | none => []
/-- What stands ahead of a kid, and the row that is asked of it. -/
abbrev Sep := Nat → List UInt8 × Nat
def comS : Sep := fun i => (if i = 0 then [] else [44, 32], 0)
def ifS : Sep := fun i => (if i = 0 then [105, 102, 32] else if i = 1 then [32, 116, 104, 101, 110, 32] else [32, 101, 108, 115, 101, 32], 0)
def quS (n : Int) (nm : List UInt8) : Sep := fun i => (if i = 0 then qword n ++ [32] ++ nm ++ [32, 105, 110, 32] else [58, 32], 0)
def opS (k : Int) : Sep := fun i => match opOf k with | some x => if i = 0 then ([], x.2.2.2.1) else ([32] ++ x.1 ++ [32], x.2.2.2.2) | none => ([], 0)
/-- A part that opens nothing. -/
def wPlain (k n : Int) (nm : List UInt8) (K : Sep → St → St) (s : St) : St :=
  if k = 1 then s.lay (Go.Lib.itoa n)
  else if k = 2 then s.lay (Go.Lib.formatBool (n == 1))
  else if k = 3 then (s.lay [64]).lay (Go.Lib.itoa n)
  else if k = 4 ∨ k = 23 then s.lay nm
  else if k = 22 then s.lay [118, 101, 114, 116, 105, 99, 101, 115]
  else K (opS k) s
/-- Kids between two brackets. -/
def wList (x y : List UInt8) (K : Sep → St → St) (s : St) : St := ((K comS (s.ent.lay x)).lay y).lea
/-- A part where its own row is asked for. -/
def wNode (k n : Int) (nm : List UInt8) (K : Sep → St → St) (s : St) : St :=
  if k = 7 then (K (fun _ => ([110, 111, 116, 32], 3)) s.ent).lea
  else if k = 6 then (K (fun _ => ([45], 7)) s.ent).lea
  else if k = 19 then (K ifS s.ent).lea
  else if k = 21 then ((K (quS n nm) s.ent.qent).qlea).lea
  else if k = 20 then wList [40] [41] K (s.lay (cword n))
  else if k = 24 then wList [40] [41] K (s.lay [97, 114, 111, 117, 110, 100])
  else if k = 25 then wList [123] [125] K s
  else wPlain k n nm K s
def wE (k n : Int) (nm : List UInt8) (asked : Nat) (K : Sep → St → St) (s : St) : St :=
  if rowOf k < asked then ((wNode k n nm K (s.ent.lay [40])).lay [41]).lea else wNode k n nm K s
/-- Trees in a row. -/
def wFs : Fs → Sep → Nat → St → St
  | ⟨none⟩, _, _, s => s
  | ⟨some ⟨k, n, nm, a, ks, r⟩⟩, f, i, s => wFs r f (i + 1) (wE k n nm (f i).2 (fun g s => wFs ks g 0 s) (s.lay (f i).1))
def wEx (e : Ex) (asked : Nat) (s : St) : St := wE e.k e.n e.nm asked (fun g s => wFs e.kids g 0 s) s

/-- d parts are laid. -/
structure Gr (c d q : Nat) (s s' : St) : Prop where
  a : s'.a = s.a
  b : s'.b = s.b
  t : s'.t.length ≤ s.t.length + c
  m : s'.m ≤ max s.m (s.a + d)
  n : s'.n ≤ max s.n (s.b + q)
theorem Gr.refl (s : St) : Gr 0 0 0 s s := ⟨rfl, rfl, by omega, by omega, by omega⟩
theorem Gr.lay {c d q : Nat} {s s' : St} (h : Gr c d q s s') (x : List UInt8) {c' : Nat} (hc : c + x.length ≤ c') : Gr c' d q s (s'.lay x) :=
  ⟨h.a, h.b, by have := h.t; simp only [St.lay, List.length_append]; omega, h.m, h.n⟩
theorem Gr.trans {c d q c' d' q' : Nat} {s s' s'' : St} (h : Gr c d q s s') (k : Gr c' d' q' s' s'') : Gr (c + c') (max d d') (max q q') s s'' := by
  obtain ⟨h1, h2, h3, h4, h5⟩ := h
  obtain ⟨k1, k2, k3, k4, k5⟩ := k
  exact ⟨by omega, by omega, by omega, by omega, by omega⟩
theorem Gr.mono {c d q c' d' q' : Nat} {s s' : St} (h : Gr c d q s s') (h1 : c ≤ c') (h2 : d ≤ d') (h3 : q ≤ q') : Gr c' d' q' s s' := by
  obtain ⟨k1, k2, k3, k4, k5⟩ := h
  exact ⟨k1, k2, by omega, by omega, by omega⟩
theorem Gr.wrap {c d q : Nat} {s s' : St} (h : Gr c d q s.ent s') : Gr c (d + 1) q s s'.lea := by
  obtain ⟨k1, k2, k3, k4, k5⟩ := h
  simp only [St.ent] at k1 k2 k3 k4 k5
  exact ⟨by simp only [St.lea]; omega, k2, k3, by simp only [St.lea]; omega, k5⟩
theorem Gr.qwrap {c d q : Nat} {s s' : St} (h : Gr c d q s.qent s') : Gr c d (q + 1) s s'.qlea := by
  obtain ⟨k1, k2, k3, k4, k5⟩ := h
  simp only [St.qent] at k1 k2 k3 k4 k5
  exact ⟨k1, by simp only [St.qlea]; omega, k3, k4, by simp only [St.qlea]; omega⟩
/-- Names are short, numbers fit. -/
def Fs.neat : Fs → Prop
  | ⟨none⟩ => True
  | ⟨some ⟨_, n, nm, _, ks, r⟩⟩ => nm.length ≤ 12 ∧ -9223372036854775808 ≤ n ∧ n ≤ 9223372036854775807 ∧ ks.neat ∧ r.neat
theorem qword_len (n : Int) : (qword n).length ≤ 5 := by
  unfold qword
  split
  · rename_i x h
    have hm := List.mem_of_find?_eq_some h
    have : ∀ x ∈ quantsL, x.1.length ≤ 5 := by decide
    exact this x hm
  · simp
theorem cword_len (n : Int) : (cword n).length ≤ 10 := by
  unfold cword
  split
  · rename_i x h
    have hm := List.mem_of_find?_eq_some h
    have : ∀ x ∈ callsL, x.1.length ≤ 10 := by decide
    exact this x hm
  · simp
theorem opS_len (k : Int) (i : Nat) : (opS k i).1.length ≤ 22 := by
  unfold opS
  split
  · rename_i x h
    have hm := List.mem_of_find?_eq_some h
    have : ∀ x ∈ opsL, x.1.length ≤ 3 := by decide
    have := this x hm
    split <;> simp <;> omega
  · simp
theorem fbool_len (b : Bool) : (Go.Lib.formatBool b).length ≤ 5 := by
  cases b <;> decide
/-- What is laid for kids, where what stands ahead of each is short. -/
def KGr (N : Nat) (K : Sep → St → St) : Prop := ∀ (g : Sep) (s : St), (∀ i, (g i).1.length ≤ 22) → Gr (N * 100) (N * 2) N s (K g s)
theorem wPlain_gr {N : Nat} {K : Sep → St → St} (hK : KGr N K) (k n : Int) (nm : List UInt8) (h1 : nm.length ≤ 12) (h2 : -9223372036854775808 ≤ n) (h3 : n ≤ 9223372036854775807) (s : St) : Gr (N * 100 + 40) (N * 2) N s (wPlain k n nm K s) := by
  have hi := Go.Lib.itoa_length_le n h2 h3
  have hz : Gr (N * 100) (N * 2) N s s := (Gr.refl s).mono (by omega) (by omega) (by omega)
  unfold wPlain
  split
  · exact hz.lay _ (by omega)
  · split
    · have := fbool_len (n == 1)
      exact hz.lay _ (by omega)
    · split
      · exact (hz.lay [64] (c' := N * 100 + 1) (by simp)).lay _ (by omega)
      · split
        · exact hz.lay _ (by omega)
        · split
          · exact hz.lay _ (by simp)
          · exact (hK _ s (opS_len k)).mono (by omega) (by omega) (by omega)
theorem wList_gr {N : Nat} {K : Sep → St → St} (hK : KGr N K) (x y : List UInt8) (hx : x.length ≤ 1) (hy : y.length ≤ 1) (s : St) : Gr (N * 100 + 2) (N * 2 + 1) N s (wList x y K s) := by
  unfold wList
  refine Gr.wrap ?_
  have h1 : Gr 1 0 0 s.ent (s.ent.lay x) := (Gr.refl _).lay x (by omega)
  have h2 := h1.trans (hK comS (s.ent.lay x) (fun i => by unfold comS; split <;> simp))
  exact (h2.lay y (c' := N * 100 + 2) (by omega)).mono (by omega) (by omega) (by omega)
theorem wNode_gr {N : Nat} {K : Sep → St → St} (hK : KGr N K) (k n : Int) (nm : List UInt8) (h1 : nm.length ≤ 12) (h2 : -9223372036854775808 ≤ n) (h3 : n ≤ 9223372036854775807) (s : St) : Gr (N * 100 + 40) (N * 2 + 1) (N + 1) s (wNode k n nm K s) := by
  have l1 := qword_len n
  have l2 := cword_len n
  unfold wNode
  split
  · exact (Gr.wrap (hK _ s.ent (fun i => by simp))).mono (by omega) (by omega) (by omega)
  · split
    · exact (Gr.wrap (hK _ s.ent (fun i => by simp))).mono (by omega) (by omega) (by omega)
    · split
      · exact (Gr.wrap (hK _ s.ent (fun i => by unfold ifS; dsimp only; split <;> (try split) <;> simp))).mono (by omega) (by omega) (by omega)
      · split
        · exact (Gr.wrap (Gr.qwrap (hK _ s.ent.qent (fun i => by unfold quS; dsimp only; split <;> simp <;> omega)))).mono (by omega) (by omega) (by omega)
        · split
          · have h0 : Gr 10 0 0 s (s.lay (cword n)) := (Gr.refl s).lay _ (by omega)
            exact (h0.trans (wList_gr hK [40] [41] (by simp) (by simp) _)).mono (by omega) (by omega) (by omega)
          · split
            · have h0 : Gr 10 0 0 s (s.lay [97, 114, 111, 117, 110, 100]) := (Gr.refl s).lay _ (by simp)
              exact (h0.trans (wList_gr hK [40] [41] (by simp) (by simp) _)).mono (by omega) (by omega) (by omega)
            · split
              · exact (wList_gr hK [123] [125] (by simp) (by simp) _).mono (by omega) (by omega) (by omega)
              · exact (wPlain_gr hK k n nm h1 h2 h3 s).mono (by omega) (by omega) (by omega)
theorem wE_gr {N : Nat} {K : Sep → St → St} (hK : KGr N K) (k n : Int) (nm : List UInt8) (asked : Nat) (h1 : nm.length ≤ 12) (h2 : -9223372036854775808 ≤ n) (h3 : n ≤ 9223372036854775807) (s : St) : Gr (N * 100 + 42) (N * 2 + 2) (N + 1) s (wE k n nm asked K s) := by
  unfold wE
  split
  · refine Gr.wrap ?_
    have h0 : Gr 1 0 0 s.ent (s.ent.lay [40]) := (Gr.refl _).lay _ (by simp)
    exact ((h0.trans (wNode_gr hK k n nm h1 h2 h3 _)).lay [41] (c' := N * 100 + 42) (by simp only [List.length_cons, List.length_nil]; omega)).mono (by omega) (by omega) (by omega)
  · exact (wNode_gr hK k n nm h1 h2 h3 s).mono (by omega) (by omega) (by omega)
theorem wFs_gr : ∀ (f : Fs), f.neat → ∀ (g : Sep) (i : Nat) (s : St), (∀ i, (g i).1.length ≤ 22) → Gr (f.size * 100) (f.size * 2) f.size s (wFs f g i s)
  | ⟨none⟩, h, g, i, s, hg => Gr.refl s
  | ⟨some ⟨k, n, nm, a, ks, r⟩⟩, h, g, i, s, hg => by
    have hK : KGr ks.size (fun g s => wFs ks g 0 s) := fun g s hg => wFs_gr ks h.2.2.2.1 g 0 s hg
    have h0 : Gr 22 0 0 s (s.lay (g i).1) := (Gr.refl s).lay _ (by have := hg i; omega)
    have h1 := h0.trans (wE_gr hK k n nm (g i).2 h.1 h.2.1 h.2.2.1 (s.lay (g i).1))
    have h2 := h1.trans (wFs_gr r h.2.2.2.2 g (i + 1) _ hg)
    exact h2.mono (by simp only [Fs.size]; omega) (by simp only [Fs.size]; omega) (by simp only [Fs.size]; omega)
end Go.Proofs.YtfpmaeflmboalaaGreatDoor
