/- A slice of trees that grows, under labels. -/
import Derived.Test.YtafnlhnenmpfoaaDoorSynR
import Derived.Deep.RegionHeld3
namespace Go.Proofs.YtafnlhnenmpfoaaDoor
set_option linter.unusedVariables false

/-- What is left are the last ones of b. -/
def Lq {α : Type} (b : List Tk) (r : Rs α) : Prop := ∀ x t, r = .ok x t → t <:+ b
theorem Lq.bind {α β : Type} {b : List Tk} {r : Rs α} {f : α → List Tk → Rs β} (h : Lq b r) (hf : ∀ x t, t <:+ b → Lq b (f x t)) : Lq b (r.bind f) := by
  cases r using Rs.on with
  | out => intro x t e; cases e
  | bad e a => intro x t e; cases e
  | ok x t => exact hf x t (h x t rfl)
theorem Lq.bad {α : Type} (b : List Tk) (e a : Nat) : Lq b (.bad e a : Rs α) := fun x t h => by cases h
theorem Lq.out {α : Type} (b : List Tk) : Lq b (.out : Rs α) := fun x t h => by cases h
theorem Lq.ok {α : Type} {b : List Tk} (x : α) {t : List Tk} (h : t <:+ b) : Lq b (.ok x t) := fun y u e => by
  obtain ⟨_, e⟩ := Rs.ok_inj e
  subst e
  exact h
theorem lq_pass (s : List UInt8) {b : List Tk} {ts : List Tk} (h : ts <:+ b) : Lq b (passT s ts) := by
  cases ts with
  | nil => exact Lq.out _
  | cons x r =>
    simp only [passT]
    split
    · exact Lq.ok _ ((List.suffix_cons x r).trans h)
    · exact Lq.bad _ _ _
theorem lq_kind (k : Nat) {b : List Tk} {ts : List Tk} (h : ts <:+ b) : Lq b (passK k ts) := by
  cases ts with
  | nil => exact Lq.out _
  | cons x r =>
    simp only [passK]
    split
    · exact Lq.ok _ ((List.suffix_cons x r).trans h)
    · exact Lq.bad _ _ _
theorem lq_enter (s : List UInt8) (o : Nat) {b : List Tk} {ts : List Tk} (h : ts <:+ b) : Lq b (enterT s o ts) := by
  cases ts with
  | nil => exact Lq.out _
  | cons x r =>
    simp only [enterT]
    split
    · split
      · exact Lq.bad _ _ _
      · exact Lq.ok _ ((List.suffix_cons x r).trans h)
    · exact Lq.bad _ _ _
section
variable {rec : Rdr}
theorem lq_argsL (H : ∀ row o q ts b, ts <:+ b → Lq b (rec row o q ts)) : ∀ (j : Nat) (o q : Nat) (acc : Fs) (ts : List Tk) (b : List Tk), ts <:+ b → Lq b (argsL rec j o q acc ts)
  | 0, o, q, acc, ts, b, h => Lq.ok _ h
  | j + 1, o, q, acc, ts, b, h => by
    unfold argsL
    exact (lq_pass _ h).bind fun _ t1 h1 => (H _ _ _ _ _ h1).bind fun e t2 h2 => lq_argsL H j o q _ t2 b h2
theorem lq_args (H : ∀ row o q ts b, ts <:+ b → Lq b (rec row o q ts)) (many o q : Nat) {b : List Tk} {ts : List Tk} (h : ts <:+ b) : Lq b (argsR rec many o q ts) := by
  unfold argsR
  exact (lq_enter _ _ h).bind fun _ t1 h1 => (H _ _ _ _ _ h1).bind fun e t2 h2 => (lq_argsL H _ _ _ _ t2 b h2).bind fun ks t3 h3 => (lq_pass _ h3).bind fun _ t4 h4 => Lq.ok _ h4
theorem lq_choice (H : ∀ row o q ts b, ts <:+ b → Lq b (rec row o q ts)) (o q : Nat) {b : List Tk} {ts : List Tk} (h : ts <:+ b) : Lq b (choiceR rec o q ts) := by
  unfold choiceR
  exact (lq_enter _ _ h).bind fun _ t1 h1 => (H _ _ _ _ _ h1).bind fun e t2 h2 => (lq_pass _ h2).bind fun _ t3 h3 => (H _ _ _ _ _ h3).bind fun e t4 h4 => (lq_pass _ h4).bind fun _ t5 h5 => (H _ _ _ _ _ h5).bind fun e t6 h6 => Lq.ok _ h6
theorem lq_memL (H : ∀ row o q ts b, ts <:+ b → Lq b (rec row o q ts)) : ∀ (m : Nat) (o q : Nat) (acc : Fs) (ts : List Tk) (b : List Tk), ts <:+ b → Lq b (memL rec m o q acc ts)
  | 0, o, q, acc, ts, b, h => Lq.out _
  | m + 1, o, q, acc, [], b, h => Lq.out _
  | m + 1, o, q, acc, x :: r, b, h => by
    unfold memL
    simp only
    split
    · exact (H _ _ _ _ _ ((List.suffix_cons x r).trans h)).bind fun e t2 h2 => lq_memL H m o q _ t2 b h2
    · exact Lq.ok _ h
theorem lq_mem (H : ∀ row o q ts b, ts <:+ b → Lq b (rec row o q ts)) (m o q : Nat) {b : List Tk} {ts : List Tk} (h : ts <:+ b) : Lq b (memR rec m o q ts) := by
  cases ts with
  | nil => exact Lq.out _
  | cons x r =>
    unfold memR
    simp only
    split
    · exact Lq.ok _ h
    · exact (H _ _ _ _ _ h).bind fun e t1 h1 => lq_memL H m o q _ t1 b h1
theorem lq_set (H : ∀ row o q ts b, ts <:+ b → Lq b (rec row o q ts)) (m o q : Nat) {b : List Tk} {ts : List Tk} (h : ts <:+ b) : Lq b (setR rec m o q ts) := by
  cases ts with
  | nil => exact Lq.out _
  | cons x r =>
    have hr : r <:+ b := (List.suffix_cons x r).trans h
    unfold setR
    simp only
    split
    · exact Lq.ok _ hr
    · split
      · exact Lq.ok _ hr
      · split
        · exact (lq_args H 1 o q hr).bind fun ks t h1 => Lq.ok _ h1
        · exact (lq_enter _ _ h).bind fun _ t1 h1 => (lq_mem H m _ q h1).bind fun ks t2 h2 => (lq_pass _ h2).bind fun _ t3 h3 => Lq.ok _ h3
theorem lq_quant (H : ∀ row o q ts b, ts <:+ b → Lq b (rec row o q ts)) (m : Nat) (s : List UInt8) (k o q : Nat) {b : List Tk} {ts : List Tk} (h : ts <:+ b) : Lq b (quantR rec m s k o q ts) := by
  cases ts with
  | nil => exact Lq.out _
  | cons x r =>
    unfold quantR
    simp only
    split
    · exact Lq.bad _ _ _
    · exact (lq_enter _ _ h).bind fun _ t1 h1 => (lq_kind _ h1).bind fun _ t2 h2 => (lq_pass _ h2).bind fun _ t3 h3 => (lq_set H m _ _ h3).bind fun _ t4 h4 => (lq_pass _ h4).bind fun _ t5 h5 => (H _ _ _ _ _ h5).bind fun e t6 h6 => Lq.ok _ h6
theorem lq_atom (H : ∀ row o q ts b, ts <:+ b → Lq b (rec row o q ts)) (m o q : Nat) {b : List Tk} {ts : List Tk} (h : ts <:+ b) : Lq b (atomR rec m o q ts) := by
  cases ts with
  | nil => exact Lq.out _
  | cons x r =>
    have hr : r <:+ b := (List.suffix_cons x r).trans h
    unfold atomR
    simp only
    split
    · exact Lq.ok _ hr
    · split
      · exact Lq.ok _ hr
      · split
        · exact Lq.ok _ hr
        · split
          · exact Lq.ok _ hr
          · split
            · exact (lq_kind _ hr).bind fun _ t h1 => Lq.ok _ h1
            · split
              · exact (lq_args H 1 o q h).bind fun ks t h1 => Lq.ok _ h1
              · split
                · exact lq_choice H o q h
                · split
                  · exact (lq_args H _ o q hr).bind fun ks t h1 => Lq.ok _ h1
                  · split
                    · exact lq_quant H m _ _ o q h
                    · exact Lq.bad _ _ _
theorem lq_pref (H : ∀ row o q ts b, ts <:+ b → Lq b (rec row o q ts)) (s : List UInt8) (k : Int) (row o q : Nat) {b : List Tk} {ts : List Tk} (h : ts <:+ b) : Lq b (prefR rec s k row o q ts) := by
  cases ts with
  | nil => exact Lq.out _
  | cons x r =>
    have hr : r <:+ b := (List.suffix_cons x r).trans h
    unfold prefR
    simp only
    split
    · split
      · exact Lq.bad _ _ _
      · exact (H _ _ _ _ _ hr).bind fun e t2 h2 => Lq.ok _ h2
    · exact H _ _ _ _ _ h
theorem lq_chainL (H : ∀ row o q ts b, ts <:+ b → Lq b (rec row o q ts)) : ∀ (m row o q : Nat) (left : Ex) (ts : List Tk) (b : List Tk), ts <:+ b → Lq b (chainL rec m row o q left ts)
  | 0, row, o, q, left, ts, b, h => Lq.out _
  | m + 1, row, o, q, left, [], b, h => Lq.out _
  | m + 1, row, o, q, left, x :: r, b, h => by
    have hr : r <:+ b := (List.suffix_cons x r).trans h
    unfold chainL
    simp only
    split
    · exact Lq.ok _ h
    · refine (H _ _ _ _ _ hr).bind fun e t2 h2 => ?_
      split
      · exact Lq.ok _ h2
      · exact lq_chainL H m row o q _ t2 b h2
end
theorem lq_part : ∀ (n row o q : Nat) (ts : List Tk) (b : List Tk), ts <:+ b → Lq b (partF n row o q ts)
  | 0, row, o, q, ts, b, h => Lq.out _
  | n + 1, row, o, q, ts, b, h => by
    have H := lq_part n
    unfold partF
    split
    · exact lq_pref H _ _ _ _ _ h
    · split
      · exact lq_pref H _ _ _ _ _ h
      · split
        · exact lq_atom H n o q h
        · exact (H _ _ _ _ _ h).bind fun l t h1 => lq_chainL H n row o q l t b h1

/-- Trees whose places are by d more. -/
def Fs.mv (d : Nat) : Fs → Fs
  | ⟨none⟩ => .nil
  | ⟨some ⟨k, n, nm, a, ks, r⟩⟩ => .cons k n nm (a + d) (ks.mv d) (r.mv d)
def Ex.mv (d : Nat) (e : Ex) : Ex := ⟨e.k, e.n, e.nm, e.a + d, e.kids.mv d⟩
/-- What two readers come to: where the one takes a text and leaves at least v, the other one takes it as well, all places by d more, and leaves v' for v; or it is too deep there. -/
def Sim {α : Type} (mv : α → α) (g d : Nat) (v v' : List Tk) (R R' : Rs α) : Prop :=
  ∀ x t, R = .ok x t → v.length ≤ t.length → ∃ u, t = u ++ v ∧ (R' = .ok (mv x) (u.map (mvT d) ++ v') ∨ g ≠ 0 ∧ ∃ a, R' = .bad 121 a ∧ 0 < a)
section
variable {g d : Nat} {v v' : List Tk}
theorem Sim.bind {α β : Type} {mv : α → α} {mw : β → β} {R R' : Rs α} {f f' : α → List Tk → Rs β} (h : Sim mv g d v v' R R') (hl : ∀ x t, Lq t (f x t)) (hf : ∀ x u, Sim mw g d v v' (f x (u ++ v)) (f' (mv x) (u.map (mvT d) ++ v'))) : Sim mw g d v v' (R.bind f) (R'.bind f') := by
  intro y t2 e hv
  cases R using Rs.on with
  | out => cases e
  | bad e a => cases e
  | ok x t =>
    have e : f x t = .ok y t2 := e
    have h2 := (hl x t y t2 e).length_le
    obtain ⟨u, rfl, h3⟩ := h x t rfl (by omega)
    rcases h3 with h3 | ⟨hg, a, h3, ha⟩
    · rw [h3]
      exact hf x u y t2 e hv
    · obtain ⟨u2, h4, _⟩ := hf x u y t2 e hv
      exact ⟨u2, h4, .inr ⟨hg, a, by rw [h3]; rfl, ha⟩⟩
theorem Sim.bad {α : Type} {mv : α → α} {e a : Nat} {R' : Rs α} : Sim mv g d v v' (.bad e a) R' := fun x t h => by cases h
theorem Sim.out {α : Type} {mv : α → α} {R' : Rs α} : Sim mv g d v v' .out R' := fun x t h => by cases h
theorem Sim.ok {α : Type} {mv : α → α} (x : α) (u : List Tk) {y : α} (h : y = mv x) : Sim mv g d v v' (.ok x (u ++ v)) (.ok y (u.map (mvT d) ++ v')) := fun x' t e _ => by
  obtain ⟨e1, e2⟩ := Rs.ok_inj e
  subst e1 e2
  exact ⟨u, rfl, .inl (by rw [h])⟩
theorem Sim.short {α : Type} {mv : α → α} {b : List Tk} {R R' : Rs α} (h : Lq b R) (hb : b.length < v.length) : Sim mv g d v v' R R' := fun x t e hv => by
  have := (h x t e).length_le
  omega
variable {rec : Rdr}
end
end Go.Proofs.YtafnlhnenmpfoaaDoor
namespace Go.Proofs.YtafnlhnenmpfoaaDoor
open Go.ChangeShapes Go.WideShapes Go.ChangeAt Go.RowKit
set_option linter.unusedVariables false
set_option linter.unusedSimpArgs false

theorem new_cells_at (w : World) (xs : List Value) (t : TypeId) : ∀ j u, xs[j]? = some u → (w.alloc (.cells xs.toArray t)).cell? ((⟨w.heap.size, 0, none⟩ : Addr).add j) = some u := fun j u hu => by
  rw [show (⟨w.heap.size, 0, none⟩ : Addr).add j = ⟨w.heap.size, j, none⟩ by simp only [Addr.add]; split <;> simp_all]
  rw [cell_of_row _ w.heap.size j _ t (0, 0) (heap_alloc_new w _)]
  simpa using hu
end Go.Proofs.YtafnlhnenmpfoaaDoor
namespace Go.Proofs.YtafnlhnenmpfoaaDoor
open Go.ChangeShapes Go.WideShapes Go.ChangeAt Go.RowKit
set_option linter.unusedVariables false
set_option linter.unusedSimpArgs false

theorem heap_set5 (w : World) (b k : Nat) (b0 b1 b2 b3 b4 : Value) (h : k ≠ b) : (((((w.setCell ⟨b, 0, none⟩ b0).setCell ⟨b, 1, none⟩ b1).setCell ⟨b, 2, none⟩ b2).setCell ⟨b, 3, none⟩ b3).setCell ⟨b, 4, none⟩ b4).heap[k]? = w.heap[k]? :=
  (heap_setCell_other _ ⟨b, 4, none⟩ k b4 h).trans ((heap_setCell_other _ ⟨b, 3, none⟩ k b3 h).trans ((heap_setCell_other _ ⟨b, 2, none⟩ k b2 h).trans ((heap_setCell_other _ ⟨b, 1, none⟩ k b1 h).trans (heap_setCell_other w ⟨b, 0, none⟩ k b0 h))))
end Go.Proofs.YtafnlhnenmpfoaaDoor
namespace Go.Proofs.YtafnlhnenmpfoaaDoor
open Go.ChangeShapes Go.WideShapes Go.ChangeAt Go.RowKit
set_option linter.unusedVariables false
set_option linter.unusedSimpArgs false

/-- Places are small. -/
def Fs.plc : Fs → Prop
  | ⟨none⟩ => True
  | ⟨some ⟨_, _, _, a, ks, r⟩⟩ => 0 ≤ a ∧ a ≤ 1000000000 ∧ ks.plc ∧ r.plc
/-- What a call that makes a tree answers. -/
def PostM (w : World) (y : Ex) (x : Ending) (w' : World) : Prop := ∃ ao cap, x = .returned (exV y ao cap) ∧ Sl w' (Nw w.heap.size) y.kids ao ∧ Below w.heap.size w w'
/-- Blocks of this call's own, of no label. -/
abbrev N0 (n0 : Nat) (o : Nat → Nat) : Nat → Prop := fun b => n0 ≤ b ∧ o b = 0
/-- A slice of trees that grows, under label 2. -/
def AccL (w : World) (o : Nat → Nat) (n0 : Nat) (acc : Fs) (v : Value) : Prop := ∃ xs, Row w o 2 24 5 v acc.len xs ∧ Fc w (N0 n0 o) acc xs
theorem Fc.lab {I : Nat → Prop} {w w' : World} {o o' : Nat → Nat} {n0 : Nat} {f : Fs} {xs : List Value} (h : Fc w (N0 n0 o) f xs) (s : Step I w o w' o') (h0 : ¬ I 0) : Fc w' (N0 n0 o') f xs :=
  h.mono (fun i hp hl => s.block i hl (by rw [hp.2]; exact h0)) s.size (fun i hp hl => ⟨hp.1, (s.lab i hl).trans hp.2⟩)
theorem Sl.lab {I : Nat → Prop} {w w' : World} {o o' : Nat → Nat} {n0 : Nat} {f : Fs} {ao : Option Addr} (h : Sl w (N0 n0 o) f ao) (s : Step I w o w' o') (h0 : ¬ I 0) : Sl w' (N0 n0 o') f ao :=
  h.mono (fun i hp hl => s.block i hl (by rw [hp.2]; exact h0)) s.size (fun i hp hl => ⟨hp.1, (s.lab i hl).trans hp.2⟩)
theorem AccL.step {I : Nat → Prop} {w w' : World} {o o' : Nat → Nat} {n0 : Nat} {acc : Fs} {v : Value} (h : AccL w o n0 acc v) (s : Step I w o w' o') (h0 : ¬ I 0) (h2 : ¬ I 2) : AccL w' o' n0 acc v := by
  obtain ⟨xs, r, f⟩ := h
  exact ⟨xs, r.step s h2, f.lab s h0⟩
theorem AccL.push {w w2 : World} {o o2 : Nat → Nat} {n0 : Nat} {acc : Fs} {xs : List Value} {v2 : Value} {y : Ex} {ao : Option Addr} {ce : Nat} (f : Fc w (N0 n0 o) acc xs) (S : Sl w (N0 n0 o) y.kids ao) (s : Step (fun x => x = 2) w o w2 o2)
    (r : Row w2 o2 2 24 5 v2 (acc.len + 1) (xs ++ [.int .i64 y.k, .int .i64 y.n, stv y.nm, .slice ao y.kids.len ce, .int .i64 y.a])) : AccL w2 o2 n0 (acc.snoc y) v2 :=
  ⟨_, by rw [Fs.len_snoc]; exact r, (f.lab s (by decide)).app (Fc.one ce (S.lab s (by decide)))⟩
theorem AccL.sl {w : World} {o : Nat → Nat} {n0 : Nat} {acc : Fs} {v : Value} (h : AccL w o n0 acc v) (ho : ∀ k, k < n0 → o k = 0) : ∃ ao cap, v = .slice ao acc.len cap ∧ Sl w (fun b => n0 ≤ b ∧ (o b = 0 ∨ o b = 2)) acc ao := by
  obtain ⟨xs, r, f⟩ := h
  by_cases h0 : 0 < acc.len
  · obtain ⟨g, cap, rfl, hg, _, _, hlt, hc, _⟩ := r.pos h0
    have hl := r.len
    refine ⟨_, cap, rfl, .inr ⟨g, 0, xs, rfl, ⟨?_, .inr hg⟩, hlt, fun j u hu => ?_, f.mono (fun _ _ _ => rfl) (Nat.le_refl _) (fun _ hp _ => ⟨hp.1, .inl hp.2⟩)⟩⟩
    · by_cases hn : n0 ≤ g
      · exact hn
      · have := ho g (by omega)
        omega
    · rw [Nat.zero_add, hc j ?_]
      · exact hu
      · rw [← hl]
        by_cases hj : j < xs.length
        · exact hj
        · rw [List.getElem?_eq_none (by omega)] at hu
          cases hu
  · obtain ⟨ao, cap, rfl⟩ := r.form
    refine ⟨ao, cap, rfl, .inl ?_⟩
    cases acc using Fs.on with
    | nil => rfl
    | cons k n nm a ks r => simp [Fs.len] at h0
theorem below_stepB {I : Nat → Prop} {n0 : Nat} {a w w' : World} {o o' : Nat → Nat} (b : Below n0 a w) (s : Step I w o w' o') (h : ∀ k, k < n0 → ¬ I (o k)) (hn : n0 ≤ a.heap.size) : Below n0 a w' :=
  ⟨s.os.trans b.os, s.tape.trans b.tape, s.output.trans b.output, Nat.le_trans b.size s.size, fun k hk => (s.block k (by have := b.size; omega) (h k hk)).trans (b.block k hk)⟩
theorem app_nil' : ∀ (x : Fs), x.app .nil = x
  | ⟨none⟩ => rfl
  | ⟨some ⟨k, n, nm, a, ks, r⟩⟩ => by simp only [Fs.app]; rw [app_nil' r]
end Go.Proofs.YtafnlhnenmpfoaaDoor
