/- The library's strconv.Atoi at this program: the kit's contracts, laid in plain words by the kit's own tool. -/
import Derived.Test.YtafnlhnenmpfoaaGreatDoorTypR
import Derived.Shelf.Strconv.ErrVarAll
import Derived.Ground.NamesProg
namespace Go.Proofs.YtafnlhnenmpfoaaGreatDoor
open Go.ChangeShapes Go.WideShapes Go.ChangeAt Go.RowKit
set_option linter.unusedVariables false
set_option linter.unusedSimpArgs false

/-- A function value that is a fixed rule. -/
def FxV (w : World) (v : Value) (ks : List Int) : Prop := ∃ b, v = .func (.func 92) #[] #[.pointer (some ⟨b, 0, none⟩)] ∧ Fxd w b ks
theorem FxV.below {w w' : World} {v : Value} {ks : List Int} (h : FxV w v ks) (B : Below w.heap.size w w') : FxV w' v ks := by
  obtain ⟨b, h1, h2⟩ := h
  exact ⟨b, h1, h2.below B⟩
theorem fixed_v {w : World} {g cap n : Nat} (ks : List Int) (hn : ks.length = n) (hg : g < w.heap.size) (h : ∀ (j : Nat) (k : Int), ks[j]? = some k → w.cell? ⟨g, j, none⟩ = some (.int .i64 k)) :
    Calls Tryz.prog 51 #[.slice (some ⟨g, 0, none⟩) n cap] w fun e w' => ∃ v, e = .returned v ∧ FxV w' v ks ∧ Below w.heap.size w w' := by
  subst hn
  refine (fixed_c ks hg h).mono ?_
  rintro e w' ⟨rfl, h1, h2⟩
  exact ⟨_, rfl, ⟨_, rfl, h1⟩, h2⟩
theorem newL (w : World) (l : List Int) (T : TypeId) : ∀ (j : Nat) (k : Int), l[j]? = some k → (w.alloc (.cells (l.map (fun x => Value.int .i64 x)).toArray T)).cell? ⟨w.heap.size, j, none⟩ = some (.int .i64 k) := by
  intro j k hj
  have hb : (w.alloc (.cells (l.map (fun x => Value.int .i64 x)).toArray T)).heap[w.heap.size]? = some (.cells (l.map (fun x => Value.int .i64 x)).toArray T (0, 0)) := heap_alloc_new w _
  refine (cell_of_row _ w.heap.size j _ _ (0, 0) hb).trans ?_
  simp [hj]
/-- A call of 'fixed' on a slice that was just made. -/
theorem fixed_n (w : World) (ks : List Int) (T : TypeId) (n : Nat) (hn : ks.length = n) :
    Calls Tryz.prog 51 #[.slice (some ⟨w.heap.size, 0, none⟩) n n] (w.alloc (.cells (ks.map (fun x => Value.int .i64 x)).toArray T)) fun e w' => ∃ b, e = .returned (.func (.func 92) #[] #[.pointer (some ⟨b, 0, none⟩)]) ∧ Fxd w' b ks ∧ Below w.heap.size w w' := by
  refine (fixed_v (w := w.alloc (.cells (ks.map (fun x => Value.int .i64 x)).toArray T)) ks hn (by simp) (newL w ks T)).mono ?_
  rintro e w' ⟨v, rfl, ⟨b, rfl, h1⟩, h2⟩
  exact ⟨b, rfl, h1, ((Below.refl _ w).alloc (Nat.le_refl _) _).trans (h2.mono (by simp))⟩
/-- A table of fixed rules. -/
def FxT (w : World) (g : Nat) (T : List (List Int)) : Prop :=
  g < w.heap.size ∧ ∀ (j : Nat) (ks : List Int), T[j]? = some ks → ks ≠ [] → ∃ v, w.cell? ⟨g, j, none⟩ = some v ∧ FxV w v ks
theorem FxT.below {w w' : World} {g : Nat} {T : List (List Int)} (h : FxT w g T) (B : Below w.heap.size w w') : FxT w' g T := by
  refine ⟨Nat.lt_of_lt_of_le h.1 B.size, fun j ks h1 h2 => ?_⟩
  obtain ⟨v, h3, h4⟩ := h.2 j ks h1 h2
  exact ⟨v, (B.cell (p := ⟨g, j, none⟩) h.1).trans h3, h4.below B⟩
def quantT : List (List Int) := [[], [4, 2, 2], [4, 2, 2], [4, 2, 1], [4, 1, 1], [4, 1, 1], [4, 1, 1]]
set_option maxRecDepth 100000 in
set_option maxHeartbeats 4000000 in
theorem quantifiers_c (w : World) : Calls Tryz.prog 56 #[] w fun e w' => ∃ g, e = .returned (.slice (some ⟨g, 0, none⟩) 7 7) ∧ FxT w' g quantT ∧ Below w.heap.size w w' := by
  go_enter Tryz.func56, Tryz.ntmps56
  go_wp2_with fail
  refine (fixed_n w [4, 2, 2] _ _ rfl).mono ?_
  rintro e w1 ⟨b1, rfl, F1, S1⟩
  go_wp2_with fail
  refine (fixed_n w1 [4, 2, 2] _ _ rfl).mono ?_
  rintro e w2 ⟨b2, rfl, F2, S2⟩
  go_wp2_with fail
  refine (fixed_n w2 [4, 2, 1] _ _ rfl).mono ?_
  rintro e w3 ⟨b3, rfl, F3, S3⟩
  go_wp2_with fail
  refine (fixed_n w3 [4, 1, 1] _ _ rfl).mono ?_
  rintro e w4 ⟨b4, rfl, F4, S4⟩
  go_wp2_with fail
  refine (fixed_n w4 [4, 1, 1] _ _ rfl).mono ?_
  rintro e w5 ⟨b5, rfl, F5, S5⟩
  go_wp2_with fail
  refine (fixed_n w5 [4, 1, 1] _ _ rfl).mono ?_
  rintro e w6 ⟨b6, rfl, F6, S6⟩
  go_wp2
  have E6 : Below w6.heap.size w6 (w6.alloc (.cells #[.nilFunc, .func (.func 92) #[] #[.pointer (some ⟨b1, 0, none⟩)], .func (.func 92) #[] #[.pointer (some ⟨b2, 0, none⟩)], .func (.func 92) #[] #[.pointer (some ⟨b3, 0, none⟩)], .func (.func 92) #[] #[.pointer (some ⟨b4, 0, none⟩)], .func (.func 92) #[] #[.pointer (some ⟨b5, 0, none⟩)], .func (.func 92) #[] #[.pointer (some ⟨b6, 0, none⟩)]] 93)) := (Below.refl _ w6).alloc (Nat.le_refl _) _
  have E5 := S6.trans (E6.mono S6.size)
  have E4 := S5.trans (E5.mono S5.size)
  have E3 := S4.trans (E4.mono S4.size)
  have E2 := S3.trans (E3.mono S3.size)
  have E1 := S2.trans (E2.mono S2.size)
  have E0 := S1.trans (E1.mono S1.size)
  have hb : (w6.alloc (.cells #[.nilFunc, .func (.func 92) #[] #[.pointer (some ⟨b1, 0, none⟩)], .func (.func 92) #[] #[.pointer (some ⟨b2, 0, none⟩)], .func (.func 92) #[] #[.pointer (some ⟨b3, 0, none⟩)], .func (.func 92) #[] #[.pointer (some ⟨b4, 0, none⟩)], .func (.func 92) #[] #[.pointer (some ⟨b5, 0, none⟩)], .func (.func 92) #[] #[.pointer (some ⟨b6, 0, none⟩)]] 93)).heap[w6.heap.size]? = some (.cells #[.nilFunc, .func (.func 92) #[] #[.pointer (some ⟨b1, 0, none⟩)], .func (.func 92) #[] #[.pointer (some ⟨b2, 0, none⟩)], .func (.func 92) #[] #[.pointer (some ⟨b3, 0, none⟩)], .func (.func 92) #[] #[.pointer (some ⟨b4, 0, none⟩)], .func (.func 92) #[] #[.pointer (some ⟨b5, 0, none⟩)], .func (.func 92) #[] #[.pointer (some ⟨b6, 0, none⟩)]] 93 (0, 0)) := heap_alloc_new w6 _
  have P : FxT (w6.alloc (.cells #[.nilFunc, .func (.func 92) #[] #[.pointer (some ⟨b1, 0, none⟩)], .func (.func 92) #[] #[.pointer (some ⟨b2, 0, none⟩)], .func (.func 92) #[] #[.pointer (some ⟨b3, 0, none⟩)], .func (.func 92) #[] #[.pointer (some ⟨b4, 0, none⟩)], .func (.func 92) #[] #[.pointer (some ⟨b5, 0, none⟩)], .func (.func 92) #[] #[.pointer (some ⟨b6, 0, none⟩)]] 93)) w6.heap.size quantT := by
   refine ⟨by simp, ?_⟩
   intro j ks h1 h2
   match j, h1 with
   | 0, h1 => injection h1 with h1; exact absurd h1.symm h2
   | 1, h1 => injection h1 with h1; subst h1; exact ⟨_, (cell_of_row _ w6.heap.size 1 _ _ (0, 0) hb).trans rfl, b1, rfl, F1.below E1⟩
   | 2, h1 => injection h1 with h1; subst h1; exact ⟨_, (cell_of_row _ w6.heap.size 2 _ _ (0, 0) hb).trans rfl, b2, rfl, F2.below E2⟩
   | 3, h1 => injection h1 with h1; subst h1; exact ⟨_, (cell_of_row _ w6.heap.size 3 _ _ (0, 0) hb).trans rfl, b3, rfl, F3.below E3⟩
   | 4, h1 => injection h1 with h1; subst h1; exact ⟨_, (cell_of_row _ w6.heap.size 4 _ _ (0, 0) hb).trans rfl, b4, rfl, F4.below E4⟩
   | 5, h1 => injection h1 with h1; subst h1; exact ⟨_, (cell_of_row _ w6.heap.size 5 _ _ (0, 0) hb).trans rfl, b5, rfl, F5.below E5⟩
   | 6, h1 => injection h1 with h1; subst h1; exact ⟨_, (cell_of_row _ w6.heap.size 6 _ _ (0, 0) hb).trans rfl, b6, rfl, F6.below E6⟩
   | j + 7, h1 => simp [quantT] at h1
  exact bodyPost_ret (v := .slice (some ⟨w6.heap.size, 0, none⟩) 7 7) (by simp [results, Tryz.results56, go_sem]) rfl ⟨w6.heap.size, rfl, P, E0⟩
def callT : List (List Int) := [[], [3, 3, 2], [3, 3, 2], [3, 3, 1], [3, 1], [3, 1], [3, 1], [3, 1], [3, 1], [3, 1], [3, 3]]
set_option maxRecDepth 100000 in
set_option maxHeartbeats 4000000 in
theorem calls_c (w : World) : Calls Tryz.prog 55 #[] w fun e w' => ∃ g, e = .returned (.slice (some ⟨g, 0, none⟩) 11 11) ∧ FxT w' g callT ∧ Below w.heap.size w w' := by
  go_enter Tryz.func55, Tryz.ntmps55
  go_wp2_with fail
  refine (fixed_n w [3, 3, 2] _ _ rfl).mono ?_
  rintro e w1 ⟨b1, rfl, F1, S1⟩
  go_wp2_with fail
  refine (fixed_n w1 [3, 3, 2] _ _ rfl).mono ?_
  rintro e w2 ⟨b2, rfl, F2, S2⟩
  go_wp2_with fail
  refine (fixed_n w2 [3, 3, 1] _ _ rfl).mono ?_
  rintro e w3 ⟨b3, rfl, F3, S3⟩
  go_wp2_with fail
  refine (fixed_n w3 [3, 1] _ _ rfl).mono ?_
  rintro e w4 ⟨b4, rfl, F4, S4⟩
  go_wp2_with fail
  refine (fixed_n w4 [3, 1] _ _ rfl).mono ?_
  rintro e w5 ⟨b5, rfl, F5, S5⟩
  go_wp2_with fail
  refine (fixed_n w5 [3, 1] _ _ rfl).mono ?_
  rintro e w6 ⟨b6, rfl, F6, S6⟩
  go_wp2_with fail
  refine (fixed_n w6 [3, 1] _ _ rfl).mono ?_
  rintro e w7 ⟨b7, rfl, F7, S7⟩
  go_wp2_with fail
  refine (fixed_n w7 [3, 1] _ _ rfl).mono ?_
  rintro e w8 ⟨b8, rfl, F8, S8⟩
  go_wp2_with fail
  refine (fixed_n w8 [3, 1] _ _ rfl).mono ?_
  rintro e w9 ⟨b9, rfl, F9, S9⟩
  go_wp2_with fail
  refine (fixed_n w9 [3, 3] _ _ rfl).mono ?_
  rintro e w10 ⟨b10, rfl, F10, S10⟩
  go_wp2
  have E10 : Below w10.heap.size w10 (w10.alloc (.cells #[.nilFunc, .func (.func 92) #[] #[.pointer (some ⟨b1, 0, none⟩)], .func (.func 92) #[] #[.pointer (some ⟨b2, 0, none⟩)], .func (.func 92) #[] #[.pointer (some ⟨b3, 0, none⟩)], .func (.func 92) #[] #[.pointer (some ⟨b4, 0, none⟩)], .func (.func 92) #[] #[.pointer (some ⟨b5, 0, none⟩)], .func (.func 92) #[] #[.pointer (some ⟨b6, 0, none⟩)], .func (.func 92) #[] #[.pointer (some ⟨b7, 0, none⟩)], .func (.func 92) #[] #[.pointer (some ⟨b8, 0, none⟩)], .func (.func 92) #[] #[.pointer (some ⟨b9, 0, none⟩)], .func (.func 92) #[] #[.pointer (some ⟨b10, 0, none⟩)]] 93)) := (Below.refl _ w10).alloc (Nat.le_refl _) _
  have E9 := S10.trans (E10.mono S10.size)
  have E8 := S9.trans (E9.mono S9.size)
  have E7 := S8.trans (E8.mono S8.size)
  have E6 := S7.trans (E7.mono S7.size)
  have E5 := S6.trans (E6.mono S6.size)
  have E4 := S5.trans (E5.mono S5.size)
  have E3 := S4.trans (E4.mono S4.size)
  have E2 := S3.trans (E3.mono S3.size)
  have E1 := S2.trans (E2.mono S2.size)
  have E0 := S1.trans (E1.mono S1.size)
  have hb : (w10.alloc (.cells #[.nilFunc, .func (.func 92) #[] #[.pointer (some ⟨b1, 0, none⟩)], .func (.func 92) #[] #[.pointer (some ⟨b2, 0, none⟩)], .func (.func 92) #[] #[.pointer (some ⟨b3, 0, none⟩)], .func (.func 92) #[] #[.pointer (some ⟨b4, 0, none⟩)], .func (.func 92) #[] #[.pointer (some ⟨b5, 0, none⟩)], .func (.func 92) #[] #[.pointer (some ⟨b6, 0, none⟩)], .func (.func 92) #[] #[.pointer (some ⟨b7, 0, none⟩)], .func (.func 92) #[] #[.pointer (some ⟨b8, 0, none⟩)], .func (.func 92) #[] #[.pointer (some ⟨b9, 0, none⟩)], .func (.func 92) #[] #[.pointer (some ⟨b10, 0, none⟩)]] 93)).heap[w10.heap.size]? = some (.cells #[.nilFunc, .func (.func 92) #[] #[.pointer (some ⟨b1, 0, none⟩)], .func (.func 92) #[] #[.pointer (some ⟨b2, 0, none⟩)], .func (.func 92) #[] #[.pointer (some ⟨b3, 0, none⟩)], .func (.func 92) #[] #[.pointer (some ⟨b4, 0, none⟩)], .func (.func 92) #[] #[.pointer (some ⟨b5, 0, none⟩)], .func (.func 92) #[] #[.pointer (some ⟨b6, 0, none⟩)], .func (.func 92) #[] #[.pointer (some ⟨b7, 0, none⟩)], .func (.func 92) #[] #[.pointer (some ⟨b8, 0, none⟩)], .func (.func 92) #[] #[.pointer (some ⟨b9, 0, none⟩)], .func (.func 92) #[] #[.pointer (some ⟨b10, 0, none⟩)]] 93 (0, 0)) := heap_alloc_new w10 _
  have P : FxT (w10.alloc (.cells #[.nilFunc, .func (.func 92) #[] #[.pointer (some ⟨b1, 0, none⟩)], .func (.func 92) #[] #[.pointer (some ⟨b2, 0, none⟩)], .func (.func 92) #[] #[.pointer (some ⟨b3, 0, none⟩)], .func (.func 92) #[] #[.pointer (some ⟨b4, 0, none⟩)], .func (.func 92) #[] #[.pointer (some ⟨b5, 0, none⟩)], .func (.func 92) #[] #[.pointer (some ⟨b6, 0, none⟩)], .func (.func 92) #[] #[.pointer (some ⟨b7, 0, none⟩)], .func (.func 92) #[] #[.pointer (some ⟨b8, 0, none⟩)], .func (.func 92) #[] #[.pointer (some ⟨b9, 0, none⟩)], .func (.func 92) #[] #[.pointer (some ⟨b10, 0, none⟩)]] 93)) w10.heap.size callT := by
   refine ⟨by simp, ?_⟩
   intro j ks h1 h2
   match j, h1 with
   | 0, h1 => injection h1 with h1; exact absurd h1.symm h2
   | 1, h1 => injection h1 with h1; subst h1; exact ⟨_, (cell_of_row _ w10.heap.size 1 _ _ (0, 0) hb).trans rfl, b1, rfl, F1.below E1⟩
   | 2, h1 => injection h1 with h1; subst h1; exact ⟨_, (cell_of_row _ w10.heap.size 2 _ _ (0, 0) hb).trans rfl, b2, rfl, F2.below E2⟩
   | 3, h1 => injection h1 with h1; subst h1; exact ⟨_, (cell_of_row _ w10.heap.size 3 _ _ (0, 0) hb).trans rfl, b3, rfl, F3.below E3⟩
   | 4, h1 => injection h1 with h1; subst h1; exact ⟨_, (cell_of_row _ w10.heap.size 4 _ _ (0, 0) hb).trans rfl, b4, rfl, F4.below E4⟩
   | 5, h1 => injection h1 with h1; subst h1; exact ⟨_, (cell_of_row _ w10.heap.size 5 _ _ (0, 0) hb).trans rfl, b5, rfl, F5.below E5⟩
   | 6, h1 => injection h1 with h1; subst h1; exact ⟨_, (cell_of_row _ w10.heap.size 6 _ _ (0, 0) hb).trans rfl, b6, rfl, F6.below E6⟩
   | 7, h1 => injection h1 with h1; subst h1; exact ⟨_, (cell_of_row _ w10.heap.size 7 _ _ (0, 0) hb).trans rfl, b7, rfl, F7.below E7⟩
   | 8, h1 => injection h1 with h1; subst h1; exact ⟨_, (cell_of_row _ w10.heap.size 8 _ _ (0, 0) hb).trans rfl, b8, rfl, F8.below E8⟩
   | 9, h1 => injection h1 with h1; subst h1; exact ⟨_, (cell_of_row _ w10.heap.size 9 _ _ (0, 0) hb).trans rfl, b9, rfl, F9.below E9⟩
   | 10, h1 => injection h1 with h1; subst h1; exact ⟨_, (cell_of_row _ w10.heap.size 10 _ _ (0, 0) hb).trans rfl, b10, rfl, F10.below E10⟩
   | j + 11, h1 => simp [callT] at h1
  exact bodyPost_ret (v := .slice (some ⟨w10.heap.size, 0, none⟩) 11 11) (by simp [results, Tryz.results55, go_sem]) rfl ⟨w10.heap.size, rfl, P, E0⟩
end Go.Proofs.YtafnlhnenmpfoaaGreatDoor
namespace Go.Proofs.YtafnlhnenmpfoaaGreatDoor
set_option linter.unusedVariables false

/-- Trees in a row: a tree (kind, number, name, place, its kids), and those behind it. -/
structure Nd (α : Type) where
  k : Int
  n : Int
  nm : List UInt8
  a : Int
  kids : α
  rest : α
structure Fs where
  v : Option (Nd Fs)
abbrev Fs.nil : Fs := ⟨none⟩
abbrev Fs.cons (k n : Int) (nm : List UInt8) (a : Int) (ks r : Fs) : Fs := ⟨some ⟨k, n, nm, a, ks, r⟩⟩
theorem Fs.on {P : Fs → Prop} (f : Fs) (nil : P .nil) (cons : ∀ k n nm a ks r, P (.cons k n nm a ks r)) : P f := by
  obtain ⟨v⟩ := f
  cases v with
  | none => exact nil
  | some z => obtain ⟨k, n, nm, a, ks, r⟩ := z; exact cons k n nm a ks r
/-- A tree. -/
structure Ex where
  k : Int
  n : Int
  nm : List UInt8
  a : Int
  kids : Fs
def Fs.len : Fs → Nat
  | ⟨none⟩ => 0
  | ⟨some ⟨_, _, _, _, _, r⟩⟩ => r.len + 1
def Fs.app : Fs → Fs → Fs
  | ⟨none⟩, y => y
  | ⟨some ⟨k, n, nm, a, ks, r⟩⟩, y => .cons k n nm a ks (r.app y)
def one (e : Ex) : Fs := .cons e.k e.n e.nm e.a e.kids .nil
def Fs.snoc (f : Fs) (e : Ex) : Fs := f.app (one e)
theorem Fs.len_app : ∀ (x y : Fs), (x.app y).len = x.len + y.len
  | ⟨none⟩, y => by simp [Fs.app, Fs.len]
  | ⟨some ⟨k, n, nm, a, ks, r⟩⟩, y => by simp only [Fs.app, Fs.len]; rw [Fs.len_app r y]; omega
theorem Fs.len_snoc (x : Fs) (e : Ex) : (x.snoc e).len = x.len + 1 := by unfold Fs.snoc; rw [Fs.len_app]; rfl
def noEx : Ex := ⟨0, 0, [], 0, .nil⟩
def Fs.head : Fs → Ex
  | ⟨none⟩ => noEx
  | ⟨some ⟨k, n, nm, a, ks, _⟩⟩ => ⟨k, n, nm, a, ks⟩
/-- What a reader comes to: it has no more strength; it gives up, with an error and its place; or what is read, and the tokens behind it. -/
structure Rs (α : Type) where
  v : Option (Sum (Nat × Nat) (α × List Tk))
abbrev Rs.out {α : Type} : Rs α := ⟨none⟩
abbrev Rs.bad {α : Type} (e a : Nat) : Rs α := ⟨some (.inl (e, a))⟩
abbrev Rs.ok {α : Type} (x : α) (t : List Tk) : Rs α := ⟨some (.inr (x, t))⟩
theorem Rs.on {α : Type} {P : Rs α → Prop} (R : Rs α) (out : P .out) (bad : ∀ e a, P (.bad e a)) (ok : ∀ x t, P (.ok x t)) : P R := by
  obtain ⟨v⟩ := R
  match v with
  | none => exact out
  | some (.inl (e, a)) => exact bad e a
  | some (.inr (x, t)) => exact ok x t
theorem Rs.ok_inj {α : Type} {x y : α} {t u : List Tk} (h : Rs.ok x t = Rs.ok y u) : x = y ∧ t = u := by simpa using h
def Rs.bind {α β : Type} : Rs α → (α → List Tk → Rs β) → Rs β
  | ⟨none⟩, _ => .out
  | ⟨some (.inl (e, a))⟩, _ => .bad e a
  | ⟨some (.inr (x, ts))⟩, f => f x ts
/-- A reader of a row: the row, openings, quantifiers, tokens. -/
abbrev Rdr := Nat → Nat → Nat → List Tk → Rs Ex
def passT (s : List UInt8) : List Tk → Rs Nat
  | [] => .out
  | x :: r => if x.t = s then .ok x.a r else .bad 120 x.a
def passK (k : Nat) : List Tk → Rs Tk
  | [] => .out
  | x :: r => if x.k = k then .ok x r else .bad 120 x.a
def enterT (s : List UInt8) (o : Nat) : List Tk → Rs Nat
  | [] => .out
  | x :: r => if x.t = s then (if o = 64 then .bad 121 x.a else .ok x.a r) else .bad 120 x.a
/-- The operators: text, kind, row, the rows that are asked for. -/
def opsL : List (List UInt8 × Nat × Nat × Nat × Nat) :=
  [([111, 114], 18, 1, 1, 2), ([97, 110, 100], 17, 2, 2, 3), ([61], 13, 4, 5, 5), ([33, 61], 14, 4, 5, 5), ([60], 15, 4, 5, 5), ([60, 61], 16, 4, 5, 5), ([43], 8, 5, 5, 6), ([45], 9, 5, 5, 6), ([42], 10, 6, 6, 7), ([47], 11, 6, 6, 7), ([37], 12, 6, 6, 7)]
def opAt (t : List UInt8) (row : Nat) : Option (List UInt8 × Nat × Nat × Nat × Nat) := opsL.find? fun x => x.1 == t && x.2.2.1 == row
/-- The words of calls, with the number of each and of its arguments. -/
def callsL : List (List UInt8 × Nat × Nat) :=
  [([99, 111, 110, 110, 101, 99, 116, 101, 100], 1, 2), ([98, 108, 111, 99, 107], 2, 2), ([98, 111, 116, 116, 108, 101, 110, 101, 99, 107], 3, 2), ([115, 105, 122, 101], 4, 1), ([116, 111, 116, 97, 108], 5, 1), ([108, 101, 97, 115, 116], 6, 1), ([109, 111, 115, 116], 7, 1), ([118, 97, 108, 117, 101], 8, 1), ([100, 101, 103, 114, 101, 101], 9, 1), ([114, 101, 112], 10, 1)]
def callAt (t : List UInt8) : Option (List UInt8 × Nat × Nat) := callsL.find? fun x => x.1 == t
/-- The words of quantifiers, with the number of each. -/
def quantsL : List (List UInt8 × Nat) :=
  [([97, 108, 108], 1), ([115, 111, 109, 101], 2), ([99, 111, 117, 110, 116], 3), ([115, 117, 109], 4), ([109, 105, 110], 5), ([109, 97, 120], 6)]
def quantAt (t : List UInt8) : Option (List UInt8 × Nat) := quantsL.find? fun x => x.1 == t
/-- A chain goes on. -/
def chainL (rec : Rdr) : Nat → Nat → Nat → Nat → Ex → List Tk → Rs Ex
  | 0, _, _, _, _, _ => .out
  | m + 1, row, o, q, left, ts =>
    match ts with
    | [] => .out
    | x :: r =>
      match opAt x.t row with
      | none => .ok left ts
      | some (_, k, _, l, rt) => (rec rt o q r).bind fun right t2 => if row < l then .ok ⟨(k : Nat), 0, [], x.a, (one left).snoc right⟩ t2 else chainL rec m row o q ⟨(k : Nat), 0, [], x.a, (one left).snoc right⟩ t2
def prefR (rec : Rdr) (s : List UInt8) (k : Int) (row o q : Nat) (ts : List Tk) : Rs Ex :=
  match ts with
  | [] => .out
  | x :: r => if x.t = s then (if o = 64 then .bad 121 x.a else (rec row (o + 1) q r).bind fun kid t2 => .ok ⟨k, 0, [], x.a, one kid⟩ t2) else rec (row + 1) o q ts
/-- More arguments. -/
def argsL (rec : Rdr) : Nat → Nat → Nat → Fs → List Tk → Rs Fs
  | 0, _, _, acc, ts => .ok acc ts
  | j + 1, o, q, acc, ts => (passT [44] ts).bind fun _ t1 => (rec 1 o q t1).bind fun e t2 => argsL rec j o q (acc.snoc e) t2
/-- Some parts in parentheses. -/
def argsR (rec : Rdr) (many o q : Nat) (ts : List Tk) : Rs Fs :=
  (enterT [40] o ts).bind fun _ t1 => (rec 1 (o + 1) q t1).bind fun e t2 => (argsL rec (many - 1) (o + 1) q (one e) t2).bind fun ks t3 => (passT [41] t3).bind fun _ t4 => .ok ks t4
def choiceR (rec : Rdr) (o q : Nat) (ts : List Tk) : Rs Ex :=
  (enterT [105, 102] o ts).bind fun a t1 => (rec 1 (o + 1) q t1).bind fun x t2 => (passT [116, 104, 101, 110] t2).bind fun _ t3 => (rec 1 (o + 1) q t3).bind fun y t4 => (passT [101, 108, 115, 101] t4).bind fun _ t5 => (rec 1 (o + 1) q t5).bind fun z t6 => .ok ⟨19, 0, [], a, ((one x).snoc y).snoc z⟩ t6
/-- More members. -/
def memL (rec : Rdr) : Nat → Nat → Nat → Fs → List Tk → Rs Fs
  | 0, _, _, _, _ => .out
  | m + 1, o, q, acc, ts =>
    match ts with
    | [] => .out
    | x :: r => if x.t = [44] then (rec 1 o q r).bind fun e t2 => memL rec m o q (acc.snoc e) t2 else .ok acc ts
def memR (rec : Rdr) (m o q : Nat) (ts : List Tk) : Rs Fs :=
  match ts with
  | [] => .out
  | x :: r => if x.t = [125] then .ok .nil ts else (rec 1 o q ts).bind fun e t1 => memL rec m o q (one e) t1
def setR (rec : Rdr) (m o q : Nat) (ts : List Tk) : Rs Ex :=
  match ts with
  | [] => .out
  | x :: r =>
    if x.k = 2 then .ok ⟨23, 0, x.t, x.a, .nil⟩ r
    else if x.t = [118, 101, 114, 116, 105, 99, 101, 115] then .ok ⟨22, 0, [], x.a, .nil⟩ r
    else if x.t = [97, 114, 111, 117, 110, 100] then (argsR rec 1 o q r).bind fun ks t => .ok ⟨24, 0, [], x.a, ks⟩ t
    else (enterT [123] o ts).bind fun a t1 => (memR rec m (o + 1) q t1).bind fun ks t2 => (passT [125] t2).bind fun _ t3 => .ok ⟨25, 0, [], a, ks⟩ t3
def quantR (rec : Rdr) (m : Nat) (s : List UInt8) (n o q : Nat) (ts : List Tk) : Rs Ex :=
  match ts with
  | [] => .out
  | x :: r =>
    if q = 4 then .bad 121 x.a
    else (enterT s o ts).bind fun a t1 => (passK 2 t1).bind fun y t2 => (passT [105, 110] t2).bind fun _ t3 => (setR rec m (o + 1) (q + 1) t3).bind fun e t4 => (passT [58] t4).bind fun _ t5 => (rec 1 (o + 1) (q + 1) t5).bind fun b t6 => .ok ⟨21, (n : Nat), y.t, a, (one e).snoc b⟩ t6
def atomR (rec : Rdr) (m o q : Nat) (ts : List Tk) : Rs Ex :=
  match ts with
  | [] => .out
  | x :: r =>
    if x.k = 1 then .ok ⟨1, x.n, [], x.a, .nil⟩ r
    else if x.k = 2 then .ok ⟨4, 0, x.t, x.a, .nil⟩ r
    else if x.t = [102, 97, 108, 115, 101] then .ok ⟨2, 0, [], x.a, .nil⟩ r
    else if x.t = [116, 114, 117, 101] then .ok ⟨2, 1, [], x.a, .nil⟩ r
    else if x.t = [64] then (passK 1 r).bind fun y t1 => .ok ⟨3, y.n, [], x.a, .nil⟩ t1
    else if x.t = [40] then (argsR rec 1 o q ts).bind fun ks t1 => .ok ks.head t1
    else if x.t = [105, 102] then choiceR rec o q ts
    else match callAt x.t with
      | some (_, n, many) => (argsR rec many o q r).bind fun ks t1 => .ok ⟨20, (n : Nat), [], x.a, ks⟩ t1
      | none =>
        match quantAt x.t with
        | some (_, n) => quantR rec m x.t n o q ts
        | none => .bad 120 x.a
/-- A row is read, with strength for so many calls. -/
def partF : Nat → Rdr
  | 0, _, _, _, _ => .out
  | n + 1, row, o, q, ts =>
    if row = 3 then prefR (partF n) [110, 111, 116] 7 3 o q ts
    else if row = 7 then prefR (partF n) [45] 6 7 o q ts
    else if row = 8 then atomR (partF n) n o q ts
    else (partF n (row + 1) o q ts).bind fun l t => chainL (partF n) n row o q l t
/-- All tokens are read. -/
def readF (n : Nat) (ts : List Tk) : Rs Ex :=
  (partF n 1 0 0 ts).bind fun e t =>
    match t with
    | [] => .out
    | x :: _ => if x.k = 0 then .ok e t else .bad 120 x.a
end Go.Proofs.YtafnlhnenmpfoaaGreatDoor
namespace Go.Proofs.YtafnlhnenmpfoaaGreatDoor
open Go.ChangeShapes Go.WideShapes Go.ChangeAt Go.RowKit Go.Shelf
set_option linter.unusedVariables false

def atoiLay_ren : Go.Shelf.Ren := ⟨fun | 172 => 120 | 244 => 136 | 245 => 137 | 247 => 152 | 279 => 153 | 280 => 154 | 281 => 155 | 282 => 156 | 287 => 159 | 316 => 160 | 171 => 131 | 205 => 161 | 321 => 167 | 322 => 168 | 243 => 149 | 246 => 158 | 283 => 163 | 284 => 164 | 285 => 165 | 286 => 166 | 129 => 170 | 317 => 169 | 318 => 171 | 319 => 172 | 320 => 173 | 337 => 174 | 338 => 175 | n => n, fun | 9 => 9 | 3 => 3 | 75 => 127 | 76 => 128 | 4 => 4 | 5 => 5 | 167 => 154 | 37 => 88 | 0 => 0 | 85 => 155 | 2 => 2 | 168 => 157 | 53 => 161 | 175 => 162 | 46 => 164 | 210 => 166 | 127 => 175 | 145 => 178 | 143 => 176 | 21 => 21 | 171 => 169 | 173 => 172 | 212 => 180 | 51 => 181 | 20 => 20 | 213 => 182 | 232 => 185 | 233 => 186 | 80 => 187 | n => n, fun | 15 => 4 | 16 => 5 | 17 => 6 | 18 => 7 | 19 => 8 | n => n⟩
theorem atoiLay : Go.Proofs.LaysC.n172 Tryz.prog atoiLay_ren := {
  mixed := by kernel_rfl
  f129 := Tryz.func170.trans (congrArg some (by kernel_rfl))
  f171 := Tryz.func131.trans (congrArg some (by kernel_rfl))
  f172 := Tryz.func120.trans (congrArg some (by kernel_rfl))
  f205 := Tryz.func161.trans (congrArg some (by kernel_rfl))
  f243 := Tryz.func149.trans (congrArg some (by kernel_rfl))
  f244 := Tryz.func136.trans (congrArg some (by kernel_rfl))
  f245 := Tryz.func137.trans (congrArg some (by kernel_rfl))
  f246 := Tryz.func158.trans (congrArg some (by kernel_rfl))
  f247 := Tryz.func152.trans (congrArg some (by kernel_rfl))
  f279 := Tryz.func153.trans (congrArg some (by kernel_rfl))
  f280 := Tryz.func154.trans (congrArg some (by kernel_rfl))
  f281 := Tryz.func155.trans (congrArg some (by kernel_rfl))
  f282 := Tryz.func156.trans (congrArg some (by kernel_rfl))
  f283 := Tryz.func163.trans (congrArg some (by kernel_rfl))
  f284 := Tryz.func164.trans (congrArg some (by kernel_rfl))
  f285 := Tryz.func165.trans (congrArg some (by kernel_rfl))
  f286 := Tryz.func166.trans (congrArg some (by kernel_rfl))
  f287 := Tryz.func159.trans (congrArg some (by kernel_rfl))
  f316 := Tryz.func160.trans (congrArg some (by kernel_rfl))
  f317 := Tryz.func169.trans (congrArg some (by kernel_rfl))
  f318 := Tryz.func171.trans (congrArg some (by kernel_rfl))
  f319 := Tryz.func172.trans (congrArg some (by kernel_rfl))
  f320 := Tryz.func173.trans (congrArg some (by kernel_rfl))
  f321 := Tryz.func167.trans (congrArg some (by kernel_rfl))
  f322 := Tryz.func168.trans (congrArg some (by kernel_rfl))
  f337 := Tryz.func174.trans (congrArg some (by kernel_rfl))
  f338 := Tryz.func175.trans (congrArg some (by kernel_rfl))
  t0 := Tryz.underlying0
  a0 := Tryz.isAgg0
  z0 := Tryz.sizeOf0
  v0 := Tryz.zeroValue0
  t2 := Tryz.underlying2
  a2 := Tryz.isAgg2
  z2 := Tryz.sizeOf2
  v2 := Tryz.zeroValue2
  t3 := Tryz.underlying3
  a3 := Tryz.isAgg3
  z3 := Tryz.sizeOf3
  v3 := Tryz.zeroValue3
  t4 := Tryz.underlying4
  a4 := Tryz.isAgg4
  z4 := Tryz.sizeOf4
  v4 := Tryz.zeroValue4
  t5 := Tryz.underlying5
  a5 := Tryz.isAgg5
  z5 := Tryz.sizeOf5
  v5 := Tryz.zeroValue5
  t9 := Tryz.underlying9
  a9 := Tryz.isAgg9
  z9 := Tryz.sizeOf9
  v9 := Tryz.zeroValue9
  t20 := Tryz.underlying20
  a20 := Tryz.isAgg20
  z20 := Tryz.sizeOf20
  v20 := Tryz.zeroValue20
  t21 := Tryz.underlying21
  a21 := Tryz.isAgg21
  z21 := Tryz.sizeOf21
  v21 := Tryz.zeroValue21
  t37 := Tryz.underlying88
  a37 := Tryz.isAgg88
  z37 := Tryz.sizeOf88
  v37 := Tryz.zeroValue88
  t46 := Tryz.underlying164
  a46 := Tryz.isAgg164
  z46 := Tryz.sizeOf164
  v46 := Tryz.zeroValue164
  t51 := Tryz.underlying181
  a51 := Tryz.isAgg181
  z51 := Tryz.sizeOf181
  v51 := Tryz.zeroValue181
  t53 := Tryz.underlying161
  a53 := Tryz.isAgg161
  z53 := Tryz.sizeOf161
  v53 := Tryz.zeroValue161
  t75 := Tryz.underlying127
  a75 := Tryz.isAgg127
  z75 := Tryz.sizeOf127
  v75 := Tryz.zeroValue127
  t76 := Tryz.underlying128
  a76 := Tryz.isAgg128
  z76 := Tryz.sizeOf128
  v76 := Tryz.zeroValue128
  t85 := Tryz.underlying155
  a85 := Tryz.isAgg155
  z85 := Tryz.sizeOf155
  v85 := Tryz.zeroValue155
  t127 := Tryz.underlying175
  a127 := Tryz.isAgg175
  z127 := Tryz.sizeOf175
  v127 := Tryz.zeroValue175
  t143 := Tryz.underlying176
  a143 := Tryz.isAgg176
  z143 := Tryz.sizeOf176
  v143 := Tryz.zeroValue176
  t145 := Tryz.underlying178
  a145 := Tryz.isAgg178
  z145 := Tryz.sizeOf178
  v145 := Tryz.zeroValue178
  t167 := Tryz.underlying154
  a167 := Tryz.isAgg154
  z167 := Tryz.sizeOf154
  v167 := Tryz.zeroValue154
  t168 := Tryz.underlying157
  a168 := Tryz.isAgg157
  z168 := Tryz.sizeOf157
  v168 := Tryz.zeroValue157
  t171 := Tryz.underlying169
  a171 := Tryz.isAgg169
  z171 := Tryz.sizeOf169
  v171 := Tryz.zeroValue169
  t173 := Tryz.underlying172
  a173 := Tryz.isAgg172
  z173 := Tryz.sizeOf172
  v173 := Tryz.zeroValue172
  t175 := Tryz.underlying162
  a175 := Tryz.isAgg162
  z175 := Tryz.sizeOf162
  v175 := Tryz.zeroValue162
  t210 := Tryz.underlying166
  a210 := Tryz.isAgg166
  z210 := Tryz.sizeOf166
  v210 := Tryz.zeroValue166
  t212 := Tryz.underlying180
  a212 := Tryz.isAgg180
  z212 := Tryz.sizeOf180
  v212 := Tryz.zeroValue180
  t213 := Tryz.underlying182
  a213 := Tryz.isAgg182
  z213 := Tryz.sizeOf182
  t232 := Tryz.underlying185
  a232 := Tryz.isAgg185
  z232 := Tryz.sizeOf185
  v232 := Tryz.zeroValue185
  t233 := Tryz.underlying186
  a233 := Tryz.isAgg186
  z233 := Tryz.sizeOf186
  v233 := Tryz.zeroValue186
  g15 := by kernel_rfl
  g16 := by kernel_rfl
  g17 := by kernel_rfl
  g18 := by kernel_rfl
  g19 := by kernel_rfl
  t80 := Tryz.underlying187
  a80 := Tryz.isAgg187
  z80 := Tryz.sizeOf187
  v80 := Tryz.zeroValue187
  i0 := by kernel_rfl
  i2 := by kernel_rfl
  i3 := by kernel_rfl
  i4 := by kernel_rfl
  i5 := by kernel_rfl
  i9 := by kernel_rfl
  i20 := by kernel_rfl
  i21 := by kernel_rfl
  i37 := by kernel_rfl
  i46 := by kernel_rfl
  i51 := by kernel_rfl
  i53 := by kernel_rfl
  i75 := by kernel_rfl
  i76 := by kernel_rfl
  i80 := by kernel_rfl
  i85 := by kernel_rfl
  i127 := by kernel_rfl
  i143 := by kernel_rfl
  i145 := by kernel_rfl
  i167 := by kernel_rfl
  i168 := by kernel_rfl
  i171 := by kernel_rfl
  i173 := by kernel_rfl
  i175 := by kernel_rfl
  i210 := by kernel_rfl
  i212 := by kernel_rfl
  i232 := by kernel_rfl
  i233 := by kernel_rfl
  m15 := by kernel_rfl
  m16 := by kernel_rfl
  m17 := by kernel_rfl
  m18 := by kernel_rfl
  m19 := by kernel_rfl
  c0 := by kernel_rfl
  c2 := by kernel_rfl
  c3 := by kernel_rfl
  c4 := by kernel_rfl
  c5 := by kernel_rfl
  c9 := by kernel_rfl
  c20 := by kernel_rfl
  c21 := by kernel_rfl
  c37 := by kernel_rfl
  c46 := by kernel_rfl
  c51 := by kernel_rfl
  c53 := by kernel_rfl
  c75 := by kernel_rfl
  c76 := by kernel_rfl
  c80 := by kernel_rfl
  c85 := by kernel_rfl
  c127 := by kernel_rfl
  c143 := by kernel_rfl
  c145 := by kernel_rfl
  c167 := by kernel_rfl
  c168 := by kernel_rfl
  c171 := by kernel_rfl
  c173 := by kernel_rfl
  c175 := by kernel_rfl
  c210 := by kernel_rfl
  c212 := by kernel_rfl
  c213 := by kernel_rfl
  c232 := by kernel_rfl
  c233 := by kernel_rfl }

theorem gSyn : Tryz.prog.globalNamed "strconv.ErrSyntax" = some 4 := by kernel_rfl
theorem gRan : Tryz.prog.globalNamed "strconv.ErrRange" = some 5 := by kernel_rfl
/-- The two errors of the library lie where the program lays them, each an interface's value. -/
def Ers (w : World) : Prop := (∃ tp p, w.var? Tryz.prog "strconv.ErrSyntax" = some #[.iface tp p]) ∧ (∃ tp p, w.var? Tryz.prog "strconv.ErrRange" = some #[.iface tp p])
theorem var_below {w w' : World} {nm : String} {g : Nat} {cs : Array Value} (hg : Tryz.prog.globalNamed nm = some g) (h : w.var? Tryz.prog nm = some cs) (b : Below w.heap.size w w') : w'.var? Tryz.prog nm = some cs := by
  simp only [World.var?, hg, Option.bind_some] at h ⊢
  have hlt : g < w.heap.size := by
    by_cases hb : g < w.heap.size
    · exact hb
    · have h2 : w.heap[g]? = none := Array.getElem?_eq_none (by omega)
      rw [h2] at h
      cases h
  rw [b.block g hlt]
  exact h
theorem Ers.below {w w' : World} (h : Ers w) (b : Below w.heap.size w w') : Ers w' := by
  obtain ⟨⟨t1, p1, h1⟩, ⟨t2, p2, h2⟩⟩ := h
  exact ⟨⟨t1, p1, var_below gSyn h1 b⟩, ⟨t2, p2, var_below gRan h2 b⟩⟩
end Go.Proofs.YtafnlhnenmpfoaaGreatDoor
