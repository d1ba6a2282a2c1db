/- A text in parentheses: its tokens, and what it is read as. No program. -/
import Derived.Test.YtafnlhnenmpfoaaGreatDoorSzJ
import Derived.Deep.RegionHeld
namespace Go.Proofs.YtafnlhnenmpfoaaGreatDoor
set_option linter.unusedVariables false

/-- What is left are the last ones of b. -/
def Lq {α : Type} (b : List Tk) (r : Rs α) : Prop := ∀ x t, r = .ok x t → t <:+ b
theorem Lq.bind {α β : Type} {b : List Tk} {r : Rs α} {f : α → List Tk → Rs β} (h : Lq b r) (hf : ∀ x t, t <:+ b → Lq b (f x t)) : Lq b (r.bind f) := by
  cases r using Rs.on with
  | out => intro x t e; cases e
  | bad e a => intro x t e; cases e
  | ok x t => exact hf x t (h x t rfl)
theorem Lq.bad {α : Type} (b : List Tk) (e a : Nat) : Lq b (.bad e a : Rs α) := fun x t h => by cases h
theorem Lq.out {α : Type} (b : List Tk) : Lq b (.out : Rs α) := fun x t h => by cases h
theorem Lq.ok {α : Type} {b : List Tk} (x : α) {t : List Tk} (h : t <:+ b) : Lq b (.ok x t) := fun y u e => by
  obtain ⟨_, e⟩ := Rs.ok_inj e
  subst e
  exact h
theorem lq_pass (s : List UInt8) {b : List Tk} {ts : List Tk} (h : ts <:+ b) : Lq b (passT s ts) := by
  cases ts with
  | nil => exact Lq.out _
  | cons x r =>
    simp only [passT]
    split
    · exact Lq.ok _ ((List.suffix_cons x r).trans h)
    · exact Lq.bad _ _ _
theorem lq_kind (k : Nat) {b : List Tk} {ts : List Tk} (h : ts <:+ b) : Lq b (passK k ts) := by
  cases ts with
  | nil => exact Lq.out _
  | cons x r =>
    simp only [passK]
    split
    · exact Lq.ok _ ((List.suffix_cons x r).trans h)
    · exact Lq.bad _ _ _
theorem lq_enter (s : List UInt8) (o : Nat) {b : List Tk} {ts : List Tk} (h : ts <:+ b) : Lq b (enterT s o ts) := by
  cases ts with
  | nil => exact Lq.out _
  | cons x r =>
    simp only [enterT]
    split
    · split
      · exact Lq.bad _ _ _
      · exact Lq.ok _ ((List.suffix_cons x r).trans h)
    · exact Lq.bad _ _ _
section
variable {rec : Rdr}
theorem lq_argsL (H : ∀ row o q ts b, ts <:+ b → Lq b (rec row o q ts)) : ∀ (j : Nat) (o q : Nat) (acc : Fs) (ts : List Tk) (b : List Tk), ts <:+ b → Lq b (argsL rec j o q acc ts)
  | 0, o, q, acc, ts, b, h => Lq.ok _ h
  | j + 1, o, q, acc, ts, b, h => by
    unfold argsL
    exact (lq_pass _ h).bind fun _ t1 h1 => (H _ _ _ _ _ h1).bind fun e t2 h2 => lq_argsL H j o q _ t2 b h2
theorem lq_args (H : ∀ row o q ts b, ts <:+ b → Lq b (rec row o q ts)) (many o q : Nat) {b : List Tk} {ts : List Tk} (h : ts <:+ b) : Lq b (argsR rec many o q ts) := by
  unfold argsR
  exact (lq_enter _ _ h).bind fun _ t1 h1 => (H _ _ _ _ _ h1).bind fun e t2 h2 => (lq_argsL H _ _ _ _ t2 b h2).bind fun ks t3 h3 => (lq_pass _ h3).bind fun _ t4 h4 => Lq.ok _ h4
theorem lq_choice (H : ∀ row o q ts b, ts <:+ b → Lq b (rec row o q ts)) (o q : Nat) {b : List Tk} {ts : List Tk} (h : ts <:+ b) : Lq b (choiceR rec o q ts) := by
  unfold choiceR
  exact (lq_enter _ _ h).bind fun _ t1 h1 => (H _ _ _ _ _ h1).bind fun e t2 h2 => (lq_pass _ h2).bind fun _ t3 h3 => (H _ _ _ _ _ h3).bind fun e t4 h4 => (lq_pass _ h4).bind fun _ t5 h5 => (H _ _ _ _ _ h5).bind fun e t6 h6 => Lq.ok _ h6
theorem lq_memL (H : ∀ row o q ts b, ts <:+ b → Lq b (rec row o q ts)) : ∀ (m : Nat) (o q : Nat) (acc : Fs) (ts : List Tk) (b : List Tk), ts <:+ b → Lq b (memL rec m o q acc ts)
  | 0, o, q, acc, ts, b, h => Lq.out _
  | m + 1, o, q, acc, [], b, h => Lq.out _
  | m + 1, o, q, acc, x :: r, b, h => by
    unfold memL
    simp only
    split
    · exact (H _ _ _ _ _ ((List.suffix_cons x r).trans h)).bind fun e t2 h2 => lq_memL H m o q _ t2 b h2
    · exact Lq.ok _ h
theorem lq_mem (H : ∀ row o q ts b, ts <:+ b → Lq b (rec row o q ts)) (m o q : Nat) {b : List Tk} {ts : List Tk} (h : ts <:+ b) : Lq b (memR rec m o q ts) := by
  cases ts with
  | nil => exact Lq.out _
  | cons x r =>
    unfold memR
    simp only
    split
    · exact Lq.ok _ h
    · exact (H _ _ _ _ _ h).bind fun e t1 h1 => lq_memL H m o q _ t1 b h1
theorem lq_set (H : ∀ row o q ts b, ts <:+ b → Lq b (rec row o q ts)) (m o q : Nat) {b : List Tk} {ts : List Tk} (h : ts <:+ b) : Lq b (setR rec m o q ts) := by
  cases ts with
  | nil => exact Lq.out _
  | cons x r =>
    have hr : r <:+ b := (List.suffix_cons x r).trans h
    unfold setR
    simp only
    split
    · exact Lq.ok _ hr
    · split
      · exact Lq.ok _ hr
      · split
        · exact (lq_args H 1 o q hr).bind fun ks t h1 => Lq.ok _ h1
        · exact (lq_enter _ _ h).bind fun _ t1 h1 => (lq_mem H m _ q h1).bind fun ks t2 h2 => (lq_pass _ h2).bind fun _ t3 h3 => Lq.ok _ h3
theorem lq_quant (H : ∀ row o q ts b, ts <:+ b → Lq b (rec row o q ts)) (m : Nat) (s : List UInt8) (k o q : Nat) {b : List Tk} {ts : List Tk} (h : ts <:+ b) : Lq b (quantR rec m s k o q ts) := by
  cases ts with
  | nil => exact Lq.out _
  | cons x r =>
    unfold quantR
    simp only
    split
    · exact Lq.bad _ _ _
    · exact (lq_enter _ _ h).bind fun _ t1 h1 => (lq_kind _ h1).bind fun _ t2 h2 => (lq_pass _ h2).bind fun _ t3 h3 => (lq_set H m _ _ h3).bind fun _ t4 h4 => (lq_pass _ h4).bind fun _ t5 h5 => (H _ _ _ _ _ h5).bind fun e t6 h6 => Lq.ok _ h6
theorem lq_atom (H : ∀ row o q ts b, ts <:+ b → Lq b (rec row o q ts)) (m o q : Nat) {b : List Tk} {ts : List Tk} (h : ts <:+ b) : Lq b (atomR rec m o q ts) := by
  cases ts with
  | nil => exact Lq.out _
  | cons x r =>
    have hr : r <:+ b := (List.suffix_cons x r).trans h
    unfold atomR
    simp only
    split
    · exact Lq.ok _ hr
    · split
      · exact Lq.ok _ hr
      · split
        · exact Lq.ok _ hr
        · split
          · exact Lq.ok _ hr
          · split
            · exact (lq_kind _ hr).bind fun _ t h1 => Lq.ok _ h1
            · split
              · exact (lq_args H 1 o q h).bind fun ks t h1 => Lq.ok _ h1
              · split
                · exact lq_choice H o q h
                · split
                  · exact (lq_args H _ o q hr).bind fun ks t h1 => Lq.ok _ h1
                  · split
                    · exact lq_quant H m _ _ o q h
                    · exact Lq.bad _ _ _
theorem lq_pref (H : ∀ row o q ts b, ts <:+ b → Lq b (rec row o q ts)) (s : List UInt8) (k : Int) (row o q : Nat) {b : List Tk} {ts : List Tk} (h : ts <:+ b) : Lq b (prefR rec s k row o q ts) := by
  cases ts with
  | nil => exact Lq.out _
  | cons x r =>
    have hr : r <:+ b := (List.suffix_cons x r).trans h
    unfold prefR
    simp only
    split
    · split
      · exact Lq.bad _ _ _
      · exact (H _ _ _ _ _ hr).bind fun e t2 h2 => Lq.ok _ h2
    · exact H _ _ _ _ _ h
theorem lq_chainL (H : ∀ row o q ts b, ts <:+ b → Lq b (rec row o q ts)) : ∀ (m row o q : Nat) (left : Ex) (ts : List Tk) (b : List Tk), ts <:+ b → Lq b (chainL rec m row o q left ts)
  | 0, row, o, q, left, ts, b, h => Lq.out _
  | m + 1, row, o, q, left, [], b, h => Lq.out _
  | m + 1, row, o, q, left, x :: r, b, h => by
    have hr : r <:+ b := (List.suffix_cons x r).trans h
    unfold chainL
    simp only
    split
    · exact Lq.ok _ h
    · refine (H _ _ _ _ _ hr).bind fun e t2 h2 => ?_
      split
      · exact Lq.ok _ h2
      · exact lq_chainL H m row o q _ t2 b h2
end
theorem lq_part : ∀ (n row o q : Nat) (ts : List Tk) (b : List Tk), ts <:+ b → Lq b (partF n row o q ts)
  | 0, row, o, q, ts, b, h => Lq.out _
  | n + 1, row, o, q, ts, b, h => by
    have H := lq_part n
    unfold partF
    split
    · exact lq_pref H _ _ _ _ _ h
    · split
      · exact lq_pref H _ _ _ _ _ h
      · split
        · exact lq_atom H n o q h
        · exact (H _ _ _ _ _ h).bind fun l t h1 => lq_chainL H n row o q l t b h1

/-- Trees whose places are by d more. -/
def Fs.mv (d : Nat) : Fs → Fs
  | ⟨none⟩ => .nil
  | ⟨some ⟨k, n, nm, a, ks, r⟩⟩ => .cons k n nm (a + d) (ks.mv d) (r.mv d)
def Ex.mv (d : Nat) (e : Ex) : Ex := ⟨e.k, e.n, e.nm, e.a + d, e.kids.mv d⟩
/-- What two readers come to: where the one takes a text and leaves at least v, the other one takes it as well, all places by d more, and leaves v' for v; or it is too deep there. -/
def Sim {α : Type} (mv : α → α) (g d : Nat) (v v' : List Tk) (R R' : Rs α) : Prop :=
  ∀ x t, R = .ok x t → v.length ≤ t.length → ∃ u, t = u ++ v ∧ (R' = .ok (mv x) (u.map (mvT d) ++ v') ∨ g ≠ 0 ∧ ∃ a, R' = .bad 121 a ∧ 0 < a)
section
variable {g d : Nat} {v v' : List Tk}
theorem Sim.bind {α β : Type} {mv : α → α} {mw : β → β} {R R' : Rs α} {f f' : α → List Tk → Rs β} (h : Sim mv g d v v' R R') (hl : ∀ x t, Lq t (f x t)) (hf : ∀ x u, Sim mw g d v v' (f x (u ++ v)) (f' (mv x) (u.map (mvT d) ++ v'))) : Sim mw g d v v' (R.bind f) (R'.bind f') := by
  intro y t2 e hv
  cases R using Rs.on with
  | out => cases e
  | bad e a => cases e
  | ok x t =>
    have e : f x t = .ok y t2 := e
    have h2 := (hl x t y t2 e).length_le
    obtain ⟨u, rfl, h3⟩ := h x t rfl (by omega)
    rcases h3 with h3 | ⟨hg, a, h3, ha⟩
    · rw [h3]
      exact hf x u y t2 e hv
    · obtain ⟨u2, h4, _⟩ := hf x u y t2 e hv
      exact ⟨u2, h4, .inr ⟨hg, a, by rw [h3]; rfl, ha⟩⟩
theorem Sim.bad {α : Type} {mv : α → α} {e a : Nat} {R' : Rs α} : Sim mv g d v v' (.bad e a) R' := fun x t h => by cases h
theorem Sim.out {α : Type} {mv : α → α} {R' : Rs α} : Sim mv g d v v' .out R' := fun x t h => by cases h
theorem Sim.ok {α : Type} {mv : α → α} (x : α) (u : List Tk) {y : α} (h : y = mv x) : Sim mv g d v v' (.ok x (u ++ v)) (.ok y (u.map (mvT d) ++ v')) := fun x' t e _ => by
  obtain ⟨e1, e2⟩ := Rs.ok_inj e
  subst e1 e2
  exact ⟨u, rfl, .inl (by rw [h])⟩
theorem Sim.short {α : Type} {mv : α → α} {b : List Tk} {R R' : Rs α} (h : Lq b R) (hb : b.length < v.length) : Sim mv g d v v' R R' := fun x t e hv => by
  have := (h x t e).length_le
  omega
variable {rec : Rdr}
end
end Go.Proofs.YtafnlhnenmpfoaaGreatDoor
namespace Go.Proofs.YtafnlhnenmpfoaaGreatDoor
set_option linter.unusedVariables false

/-- A query in parentheses. -/
def parR (rec : Rdr) (o q : Nat) (ts : List Tk) : Rs Ex := (enterT [40] o ts).bind fun _ t1 => (rec 1 (o + 1) q t1).bind fun e t2 => (passT [41] t2).bind fun _ t4 => .ok e t4
theorem par_args (rec : Rdr) (o q : Nat) (ts : List Tk) : ((argsR rec 1 o q ts).bind fun ks t1 => .ok ks.head t1) = parR rec o q ts := by
  unfold argsR parR
  cases enterT [40] o ts using Rs.on with
  | out => rfl
  | bad e a => rfl
  | ok a t1 =>
    show (((rec 1 (o + 1) q t1).bind fun e t2 => (argsL rec 0 (o + 1) q (one e) t2).bind fun ks t3 => (passT [41] t3).bind fun _ t4 => .ok ks t4).bind fun ks t1 => .ok ks.head t1) = (rec 1 (o + 1) q t1).bind fun e t2 => (passT [41] t2).bind fun _ t4 => .ok e t4
    cases rec 1 (o + 1) q t1 using Rs.on with
    | out => rfl
    | bad e a => rfl
    | ok e t2 =>
      show (((passT [41] t2).bind fun _ t4 => Rs.ok (one e) t4).bind fun ks t1 => .ok ks.head t1) = (passT [41] t2).bind fun _ t4 => .ok e t4
      cases passT [41] t2 using Rs.on with
      | out => rfl
      | bad e a => rfl
      | ok a t4 => rfl
section
variable {g d : Nat} {v v' : List Tk} {rec : Rdr}
end
end Go.Proofs.YtafnlhnenmpfoaaGreatDoor
namespace Go.Proofs.YtafnlhnenmpfoaaGreatDoor
open Go.ChangeShapes Go.WideShapes Go.ChangeAt Go.RowKit
set_option linter.unusedVariables false
set_option linter.unusedSimpArgs false

/-- What one of the kids is. -/
theorem Sl.kidQ {P : Nat → Prop} {w : World} {x r : Fs} {k n : Int} {nm : List UInt8} {a : Int} {ks : Fs} {ao : Option Addr} (h : Sl w P (x.app (.cons k n nm a ks r)) ao) : ∃ b off ak ck, ao = some ⟨b, off, none⟩ ∧ b < w.heap.size ∧ P b ∧ w.cell? ⟨b, off + x.len * 5, none⟩ = some (.int .i64 k) ∧ w.cell? ⟨b, off + x.len * 5 + 1, none⟩ = some (.int .i64 n) ∧ w.cell? ⟨b, off + x.len * 5 + 2, none⟩ = some (stv nm) ∧ w.cell? ⟨b, off + x.len * 5 + 3, none⟩ = some (.slice ak ks.len ck) ∧ w.cell? ⟨b, off + x.len * 5 + 4, none⟩ = some (.int .i64 a) ∧ Sl w P ks ak := by
  rcases h with h | ⟨b, off, zs, rfl, hp, hlt, hc, hf⟩
  · cases x using Fs.on with
    | nil => cases h
    | cons k n nm a ks r => cases h
  · obtain ⟨zx, zy, rfl, h3, h4⟩ := Fc.split hf
    have hl := h3.len
    obtain ⟨ak, ck, ys, rfl, h5, h6⟩ := h4
    have hc' : ∀ j u, (.int .i64 k :: .int .i64 n :: stv nm :: .slice ak ks.len ck :: .int .i64 a :: ys : List Value)[j]? = some u → w.cell? ⟨b, off + x.len * 5 + j, none⟩ = some u := fun j u hu => by
      have := hc (x.len * 5 + j) u (by rw [List.getElem?_append_right (by omega), hl, Nat.add_sub_cancel_left]; exact hu)
      rw [Nat.add_assoc]
      exact this
    exact ⟨b, off, ak, ck, rfl, hlt, hp, hc' 0 _ rfl, hc' 1 _ rfl, hc' 2 _ rfl, hc' 3 _ rfl, hc' 4 _ rfl, h5⟩
abbrev SlA (w : World) (f : Fs) (ao : Option Addr) : Prop := Sl w (fun _ => True) f ao
theorem SlA.below {w w' : World} {f : Fs} {ao : Option Addr} (h : SlA w f ao) (b : Below w.heap.size w w') : SlA w' f ao := h.mono (fun i _ hl => b.block i hl) b.size (fun _ h _ => h)
def WholeOk (N : Nat) : Prop := ∀ (e : Ex) (ao ao2 : Option Addr) (cap cap2 : Nat) (w : World), e.kids.size < N → e.kids.len ≤ 1000000000 → e.kids.short → SlA w e.kids ao → SlA w e.kids ao2 →
  Calls Tryz.prog 10 #[exV e ao cap, exV e ao2 cap2] w fun x w' => x = .returned (.bool true) ∧ Below w.heap.size w w'
set_option maxRecDepth 100000 in
set_option maxHeartbeats 1000000 in
theorem whole_step {N : Nat} (IH : WholeOk N) : WholeOk (N + 1) := by
  intro e ao ao2 cap cap2 w hN hlen hsh S S2
  have B0 : Below w.heap.size w ((w.alloc (.cells #[.int .i64 e.k, .int .i64 e.n, stv e.nm, .slice ao e.kids.len cap, .int .i64 e.a] 25)).alloc (.cells #[.int .i64 e.k, .int .i64 e.n, stv e.nm, .slice ao2 e.kids.len cap2, .int .i64 e.a] 25)) := ((Below.refl _ w).alloc (Nat.le_refl _) _).alloc (by simp) _
  have E0 : ((w.alloc (.cells #[.int .i64 e.k, .int .i64 e.n, stv e.nm, .slice ao e.kids.len cap, .int .i64 e.a] 25)).alloc (.cells #[.int .i64 e.k, .int .i64 e.n, stv e.nm, .slice ao2 e.kids.len cap2, .int .i64 e.a] 25)).heap[w.heap.size]? = some (.cells #[.int .i64 e.k, .int .i64 e.n, stv e.nm, .slice ao e.kids.len cap, .int .i64 e.a] 25) := (Below.heap_alloc _ _ _ (by simp)).trans (heap_alloc_new w _)
  have Y0 : ((w.alloc (.cells #[.int .i64 e.k, .int .i64 e.n, stv e.nm, .slice ao e.kids.len cap, .int .i64 e.a] 25)).alloc (.cells #[.int .i64 e.k, .int .i64 e.n, stv e.nm, .slice ao2 e.kids.len cap2, .int .i64 e.a] 25)).heap[w.heap.size + 1]? = some (.cells #[.int .i64 e.k, .int .i64 e.n, stv e.nm, .slice ao2 e.kids.len cap2, .int .i64 e.a] 25) := by
    have := heap_alloc_new (w.alloc (.cells #[.int .i64 e.k, .int .i64 e.n, stv e.nm, .slice ao e.kids.len cap, .int .i64 e.a] 25)) (.cells #[.int .i64 e.k, .int .i64 e.n, stv e.nm, .slice ao2 e.kids.len cap2, .int .i64 e.a] 25)
    simpa using this
  have S0 := S.below B0
  have T0 := S2.below B0
  rw [exV_out, exV_out]
  go_enter Tryz.func10, Tryz.ntmps10
  go_upto_region 1 with fail
  generalize (w.alloc (.cells #[.int .i64 e.k, .int .i64 e.n, stv e.nm, .slice ao e.kids.len cap, .int .i64 e.a] 25)).alloc (.cells #[.int .i64 e.k, .int .i64 e.n, stv e.nm, .slice ao2 e.kids.len cap2, .int .i64 e.a] 25) = w0 at *
  obtain ⟨bx, hbx⟩ : ∃ bx, bx = w.heap.size := ⟨_, rfl⟩
  rw [← hbx] at E0 Y0 B0 ⊢
  have HB : Hid (bx = w.heap.size) := hbx
  clear hbx S S2
  obtain ⟨p0, p1, p2, p3, p4, pf⟩ := box5 E0
  obtain ⟨q0, q1, q2, q3, q4, qf⟩ := box5 Y0
  go_wp2
  go_loopw [5] (fun v wr => ∃ (done r : Fs), Hid (e.kids = done.app r) ∧ v = .int .i64 (done.len : Nat) ∧ wr.heap[bx]? = some (.cells #[.int .i64 e.k, .int .i64 e.n, stv e.nm, .slice ao e.kids.len cap, .int .i64 e.a] 25) ∧ wr.heap[bx + 1]? = some (.cells #[.int .i64 e.k, .int .i64 e.n, stv e.nm, .slice ao2 e.kids.len cap2, .int .i64 e.a] 25) ∧ SlA wr e.kids ao ∧ SlA wr e.kids ao2 ∧ Below bx w wr) (fun v _ => e.kids.len - (intOf v).toNat)
  case atStart => exact ⟨.nil, e.kids, rfl, by show _ = Value.int .i64 ((0 : Nat) : Int); rfl, E0, Y0, S0, T0, B0⟩
  case round =>
    clear E0 Y0 S0 T0 B0 p0 p1 p2 p3 p4 pf q0 q1 q2 q3 q4 qf
    obtain ⟨done, r, hk, rfl, E1, Y1, S1, T1, B1⟩ := hrel
    have hlk : e.kids.len = done.len + r.len := by rw [hk.out, Fs.len_app]
    obtain ⟨p0, p1, p2, p3, p4, pf⟩ := box5 E1
    obtain ⟨q0, q1, q2, q3, q4, qf⟩ := box5 Y1
    cases r using Fs.on with
    | nil =>
      have hl0 : ¬ (done.len : Int) < (e.kids.len : Int) := by simp only [Fs.len] at hlk; omega
      clear hlk
      go_wp2
      go_ret
      exact ⟨rfl, by rw [← HB.out]; exact B1⟩
    | cons kk kn km ka kks kr =>
      have hl0 : (done.len : Int) < (e.kids.len : Int) := by simp only [Fs.len] at hlk; omega
      have hl1 : done.len < e.kids.len := by omega
      have hsz : e.kids.size = done.size + (kks.size + kr.size + 1) := by rw [hk.out, Fs.size_app]; rfl
      have hsk : (Fs.cons kk kn km ka kks kr).short := Fs.app_short (by rw [← hk.out]; exact hsh)
      obtain ⟨b, off, ak, ck, hao, lb1, -, x0, x1, x2, x3, x4, SK⟩ := Sl.kidQ (by rw [← hk.out]; exact S1)
      obtain ⟨b', off', ak', ck', hao', lb2, -, y0, y1, y2, y3, y4, TK⟩ := Sl.kidQ (by rw [← hk.out]; exact T1)
      subst hao hao'
      have hc := IH ⟨kk, kn, km, ka, kks⟩ ak ak' ck ck' wr.drew (by show kks.size < N; omega) hsk.2.1 hsk.2.2.1 (SlA.below SK (Below.refl _ wr).drew) (SlA.below TK (Below.refl _ wr).drew)
      rw [exV_out, exV_out] at hc
      simp only at hc
      clear hlk hsz hsk SK TK
      go_wp2
      have k0 : wr.cell? ⟨bx, 3, none⟩ = some (.slice (some ⟨b, off, none⟩) e.kids.len cap) ∧ wr.cell? ⟨bx + 1, 3, none⟩ = some (.slice (some ⟨b', off', none⟩) e.kids.len cap2) ∧ wr.cell? ⟨b, off + done.len * 5, none⟩ = some (.int .i64 kk) ∧ wr.cell? ⟨b, off + done.len * 5 + 1, none⟩ = some (.int .i64 kn) ∧ wr.cell? ⟨b, off + done.len * 5 + 2, none⟩ = some (stv km) ∧ wr.cell? ⟨b, off + done.len * 5 + 3, none⟩ = some (.slice ak kks.len ck) ∧ wr.cell? ⟨b, off + done.len * 5 + 4, none⟩ = some (.int .i64 ka) ∧ wr.cell? ⟨b', off' + done.len * 5, none⟩ = some (.int .i64 kk) ∧ wr.cell? ⟨b', off' + done.len * 5 + 1, none⟩ = some (.int .i64 kn) ∧ wr.cell? ⟨b', off' + done.len * 5 + 2, none⟩ = some (stv km) ∧ wr.cell? ⟨b', off' + done.len * 5 + 3, none⟩ = some (.slice ak' kks.len ck') ∧ wr.cell? ⟨b', off' + done.len * 5 + 4, none⟩ = some (.int .i64 ka) := ⟨p3, q3, x0, x1, x2, x3, x4, y0, y1, y2, y3, y4⟩
      have k1 : wr.drew.cell? ⟨bx, 3, none⟩ = some (.slice (some ⟨b, off, none⟩) e.kids.len cap) ∧ wr.drew.cell? ⟨bx + 1, 3, none⟩ = some (.slice (some ⟨b', off', none⟩) e.kids.len cap2) ∧ wr.drew.cell? ⟨b, off + done.len * 5, none⟩ = some (.int .i64 kk) ∧ wr.drew.cell? ⟨b, off + done.len * 5 + 1, none⟩ = some (.int .i64 kn) ∧ wr.drew.cell? ⟨b, off + done.len * 5 + 2, none⟩ = some (stv km) ∧ wr.drew.cell? ⟨b, off + done.len * 5 + 3, none⟩ = some (.slice ak kks.len ck) ∧ wr.drew.cell? ⟨b, off + done.len * 5 + 4, none⟩ = some (.int .i64 ka) ∧ wr.drew.cell? ⟨b', off' + done.len * 5, none⟩ = some (.int .i64 kk) ∧ wr.drew.cell? ⟨b', off' + done.len * 5 + 1, none⟩ = some (.int .i64 kn) ∧ wr.drew.cell? ⟨b', off' + done.len * 5 + 2, none⟩ = some (stv km) ∧ wr.drew.cell? ⟨b', off' + done.len * 5 + 3, none⟩ = some (.slice ak' kks.len ck') ∧ wr.drew.cell? ⟨b', off' + done.len * 5 + 4, none⟩ = some (.int .i64 ka) := k0
      have lb : bx + 1 < wr.drew.heap.size := lt_of_block Y1
      go_region_held (fun wx => wx.cell? ⟨bx, 3, none⟩ = some (.slice (some ⟨b, off, none⟩) e.kids.len cap) ∧ wx.cell? ⟨bx + 1, 3, none⟩ = some (.slice (some ⟨b', off', none⟩) e.kids.len cap2) ∧ wx.cell? ⟨b, off + done.len * 5, none⟩ = some (.int .i64 kk) ∧ wx.cell? ⟨b, off + done.len * 5 + 1, none⟩ = some (.int .i64 kn) ∧ wx.cell? ⟨b, off + done.len * 5 + 2, none⟩ = some (stv km) ∧ wx.cell? ⟨b, off + done.len * 5 + 3, none⟩ = some (.slice ak kks.len ck) ∧ wx.cell? ⟨b, off + done.len * 5 + 4, none⟩ = some (.int .i64 ka) ∧ wx.cell? ⟨b', off' + done.len * 5, none⟩ = some (.int .i64 kk) ∧ wx.cell? ⟨b', off' + done.len * 5 + 1, none⟩ = some (.int .i64 kn) ∧ wx.cell? ⟨b', off' + done.len * 5 + 2, none⟩ = some (stv km) ∧ wx.cell? ⟨b', off' + done.len * 5 + 3, none⟩ = some (.slice ak' kks.len ck') ∧ wx.cell? ⟨b', off' + done.len * 5 + 4, none⟩ = some (.int .i64 ka)) (first | (with_reducible exact k2) | (with_reducible exact k1) | (with_reducible exact k0)) ((go_at_call 10; refine hc.mono ?_; rintro x w2 ⟨rfl, b2⟩; have k2 : w2.cell? ⟨bx, 3, none⟩ = some (.slice (some ⟨b, off, none⟩) e.kids.len cap) ∧ w2.cell? ⟨bx + 1, 3, none⟩ = some (.slice (some ⟨b', off', none⟩) e.kids.len cap2) ∧ w2.cell? ⟨b, off + done.len * 5, none⟩ = some (.int .i64 kk) ∧ w2.cell? ⟨b, off + done.len * 5 + 1, none⟩ = some (.int .i64 kn) ∧ w2.cell? ⟨b, off + done.len * 5 + 2, none⟩ = some (stv km) ∧ w2.cell? ⟨b, off + done.len * 5 + 3, none⟩ = some (.slice ak kks.len ck) ∧ w2.cell? ⟨b, off + done.len * 5 + 4, none⟩ = some (.int .i64 ka) ∧ w2.cell? ⟨b', off' + done.len * 5, none⟩ = some (.int .i64 kk) ∧ w2.cell? ⟨b', off' + done.len * 5 + 1, none⟩ = some (.int .i64 kn) ∧ w2.cell? ⟨b', off' + done.len * 5 + 2, none⟩ = some (stv km) ∧ w2.cell? ⟨b', off' + done.len * 5 + 3, none⟩ = some (.slice ak' kks.len ck') ∧ w2.cell? ⟨b', off' + done.len * 5 + 4, none⟩ = some (.int .i64 ka) := ⟨(b2.cell (p := ⟨bx, 3, none⟩) (Nat.lt_of_succ_lt lb)).trans p3, (b2.cell (p := ⟨bx + 1, 3, none⟩) lb).trans q3, (b2.cell (p := ⟨b, off + done.len * 5, none⟩) lb1).trans x0, (b2.cell (p := ⟨b, off + done.len * 5 + 1, none⟩) lb1).trans x1, (b2.cell (p := ⟨b, off + done.len * 5 + 2, none⟩) lb1).trans x2, (b2.cell (p := ⟨b, off + done.len * 5 + 3, none⟩) lb1).trans x3, (b2.cell (p := ⟨b, off + done.len * 5 + 4, none⟩) lb1).trans x4, (b2.cell (p := ⟨b', off' + done.len * 5, none⟩) lb2).trans y0, (b2.cell (p := ⟨b', off' + done.len * 5 + 1, none⟩) lb2).trans y1, (b2.cell (p := ⟨b', off' + done.len * 5 + 2, none⟩) lb2).trans y2, (b2.cell (p := ⟨b', off' + done.len * 5 + 3, none⟩) lb2).trans y3, (b2.cell (p := ⟨b', off' + done.len * 5 + 4, none⟩) lb2).trans y4⟩))
      have B2 : Below bx w w2 := (B1.drew).trans (b2.mono (by have := HB.out; have := B1.size; show bx ≤ wr.heap.size; omega))
      have E2 := (b2.block bx (Nat.lt_of_succ_lt lb)).trans E1
      have Y2 := (b2.block (bx + 1) lb).trans Y1
      have S2 := SlA.below (SlA.below S1 (Below.refl _ wr).drew) b2
      have T2 := SlA.below (SlA.below T1 (Below.refl _ wr).drew) b2
      have hk2 : Hid (e.kids = (done.snoc ⟨kk, kn, km, ka, kks⟩).app kr) := by show e.kids = _; rw [hk.out]; unfold Fs.snoc; rw [Fs.app_assoc]; rfl
      have hl2 : (done.len : Int) + 1 = ((done.snoc ⟨kk, kn, km, ka, kks⟩).len : Nat) := by rw [Fs.len_snoc]; rfl
      have hl3 : e.kids.len - (done.len + 1) < e.kids.len - done.len := by omega
      clear k0 k1 k2 p0 p1 p2 p3 p4 pf q0 q1 q2 q3 q4 qf x0 x1 x2 x3 x4 y0 y1 y2 y3 y4 hc b2 E1 Y1 S1 T1 B1 hk
      go_wp2
      go_roundw
      case rel => exact ⟨_, kr, hk2, by rw [← hl2], E2, Y2, S2, T2, B2⟩
      case measure => simp [intOf]; omega
theorem whole_ok : ∀ N, WholeOk N
  | 0 => fun e ao ao2 cap cap2 w h => absurd h (Nat.not_lt_zero _)
  | N + 1 => whole_step (whole_ok N)
end Go.Proofs.YtafnlhnenmpfoaaGreatDoor
namespace Go.Proofs.YtafnlhnenmpfoaaGreatDoor
open Go.ChangeShapes Go.WideShapes Go.ChangeAt Go.RowKit
set_option linter.unusedVariables false
set_option linter.unusedSimpArgs false

/-- Places are small. -/
def Fs.plc : Fs → Prop
  | ⟨none⟩ => True
  | ⟨some ⟨_, _, _, a, ks, r⟩⟩ => 0 ≤ a ∧ a ≤ 1000000000 ∧ ks.plc ∧ r.plc
/-- Blocks of this call's own, of no label. -/
abbrev N0 (n0 : Nat) (o : Nat → Nat) : Nat → Prop := fun b => n0 ≤ b ∧ o b = 0
/-- A slice of trees that grows, under label 2. -/
def AccL (w : World) (o : Nat → Nat) (n0 : Nat) (acc : Fs) (v : Value) : Prop := ∃ xs, Row w o 2 25 5 v acc.len xs ∧ Fc w (N0 n0 o) acc xs
theorem Fc.lab {I : Nat → Prop} {w w' : World} {o o' : Nat → Nat} {n0 : Nat} {f : Fs} {xs : List Value} (h : Fc w (N0 n0 o) f xs) (s : Step I w o w' o') (h0 : ¬ I 0) : Fc w' (N0 n0 o') f xs :=
  h.mono (fun i hp hl => s.block i hl (by rw [hp.2]; exact h0)) s.size (fun i hp hl => ⟨hp.1, (s.lab i hl).trans hp.2⟩)
theorem Sl.lab {I : Nat → Prop} {w w' : World} {o o' : Nat → Nat} {n0 : Nat} {f : Fs} {ao : Option Addr} (h : Sl w (N0 n0 o) f ao) (s : Step I w o w' o') (h0 : ¬ I 0) : Sl w' (N0 n0 o') f ao :=
  h.mono (fun i hp hl => s.block i hl (by rw [hp.2]; exact h0)) s.size (fun i hp hl => ⟨hp.1, (s.lab i hl).trans hp.2⟩)
theorem AccL.step {I : Nat → Prop} {w w' : World} {o o' : Nat → Nat} {n0 : Nat} {acc : Fs} {v : Value} (h : AccL w o n0 acc v) (s : Step I w o w' o') (h0 : ¬ I 0) (h2 : ¬ I 2) : AccL w' o' n0 acc v := by
  obtain ⟨xs, r, f⟩ := h
  exact ⟨xs, r.step s h2, f.lab s h0⟩
theorem AccL.push {w w2 : World} {o o2 : Nat → Nat} {n0 : Nat} {acc : Fs} {xs : List Value} {v2 : Value} {y : Ex} {ao : Option Addr} {ce : Nat} (f : Fc w (N0 n0 o) acc xs) (S : Sl w (N0 n0 o) y.kids ao) (s : Step (fun x => x = 2) w o w2 o2)
    (r : Row w2 o2 2 25 5 v2 (acc.len + 1) (xs ++ [.int .i64 y.k, .int .i64 y.n, stv y.nm, .slice ao y.kids.len ce, .int .i64 y.a])) : AccL w2 o2 n0 (acc.snoc y) v2 :=
  ⟨_, by rw [Fs.len_snoc]; exact r, (f.lab s (by decide)).app (Fc.one ce (S.lab s (by decide)))⟩
theorem AccL.sl {w : World} {o : Nat → Nat} {n0 : Nat} {acc : Fs} {v : Value} (h : AccL w o n0 acc v) (ho : ∀ k, k < n0 → o k = 0) : ∃ ao cap, v = .slice ao acc.len cap ∧ Sl w (fun b => n0 ≤ b ∧ (o b = 0 ∨ o b = 2)) acc ao := by
  obtain ⟨xs, r, f⟩ := h
  by_cases h0 : 0 < acc.len
  · obtain ⟨g, cap, rfl, hg, _, _, hlt, hc, _⟩ := r.pos h0
    have hl := r.len
    refine ⟨_, cap, rfl, .inr ⟨g, 0, xs, rfl, ⟨?_, .inr hg⟩, hlt, fun j u hu => ?_, f.mono (fun _ _ _ => rfl) (Nat.le_refl _) (fun _ hp _ => ⟨hp.1, .inl hp.2⟩)⟩⟩
    · by_cases hn : n0 ≤ g
      · exact hn
      · have := ho g (by omega)
        omega
    · rw [Nat.zero_add, hc j ?_]
      · exact hu
      · rw [← hl]
        by_cases hj : j < xs.length
        · exact hj
        · rw [List.getElem?_eq_none (by omega)] at hu
          cases hu
  · obtain ⟨ao, cap, rfl⟩ := r.form
    refine ⟨ao, cap, rfl, .inl ?_⟩
    cases acc using Fs.on with
    | nil => rfl
    | cons k n nm a ks r => simp [Fs.len] at h0
end Go.Proofs.YtafnlhnenmpfoaaGreatDoor
namespace Go.Proofs.YtafnlhnenmpfoaaGreatDoor
set_option linter.unusedVariables false

/-- The one has no strength, or both are the same. -/
def Und {α : Type} (R R' : Rs α) : Prop := R = .out ∨ R' = R
theorem Und.refl {α : Type} (R : Rs α) : Und R R := .inr rfl
theorem Und.out {α : Type} (R' : Rs α) : Und .out R' := .inl rfl
theorem Und.bind {α β : Type} {R R' : Rs α} {f f' : α → List Tk → Rs β} (h : Und R R') (hf : ∀ x t, Und (f x t) (f' x t)) : Und (R.bind f) (R'.bind f') := by
  rcases h with rfl | rfl
  · exact .inl rfl
  · cases R' using Rs.on with
    | out => exact .inl rfl
    | bad e a => exact .inr rfl
    | ok x t => exact hf x t
section
variable {rec rec' : Rdr}
end
end Go.Proofs.YtafnlhnenmpfoaaGreatDoor
namespace Go.Proofs.YtafnlhnenmpfoaaGreatDoor
set_option linter.unusedVariables false

/-- A text that is taken, and a byte behind it with which no piece goes on: what follows is read as it stands. -/
theorem lexL_thenG (k : Nat) (t : List UInt8) (a p : Nat) (l : List UInt8) (ts : List Tk) (c : UInt8) (m : List UInt8) (hb : ∀ k t, k ≠ 0 → tks k t c.toNat = false) (h : lexL k t a p l = .inr ts) :
    ∃ us, ts = us ++ [⟨0, 0, [], p + l.length⟩] ∧ lexL k t a p (l ++ c :: m) = preR us (lexL 0 [] (p + l.length) (p + l.length) (c :: m)) := by
  induction l generalizing k t a p ts with
  | nil =>
    rcases shut_inr h with ⟨rfl, h1⟩ | ⟨hk, x, us, hp, h1, h2⟩
    · injection h1 with h1
      exact ⟨[], h1.symm, lexL_blank _ _ _ _ _ _⟩
    · injection h1 with h1
      subst h1
      refine ⟨[x], h2, ?_⟩
      simp only [List.nil_append, List.length_nil, Nat.add_zero]
      rw [lexL_shut (hb k t hk)]
      unfold shutP
      rw [if_neg hk, hp]
      rfl
  | cons d r ih =>
    have e1 : p + (d :: r).length = p + 1 + r.length := by simp; omega
    rw [e1]
    cases ht : tks k t d.toNat
    · rw [lexL_no ht] at h
      rw [List.cons_append, lexL_no ht]
      rcases shut_inr h with ⟨rfl, h1⟩ | ⟨hk, x, us, hp, h1, h2⟩
      · obtain ⟨vs, h3, h4⟩ := ih _ _ _ _ _ h1
        refine ⟨vs, h3, ?_⟩
        rw [h4]
        rfl
      · obtain ⟨vs, h3, h4⟩ := ih _ _ _ _ _ h1
        refine ⟨x :: vs, by rw [h2, h3]; rfl, ?_⟩
        rw [h4]
        unfold shutP
        rw [if_neg hk, hp]
        rfl
    · rw [lexL_yes ht] at h
      rw [List.cons_append, lexL_yes ht]
      exact ih _ _ _ _ _ h
theorem par_tks (c : UInt8) (hc : c = 40 ∨ c = 41) (k : Nat) (t : List UInt8) (hk : k ≠ 0) : tks k t c.toNat = false := by
  unfold tks
  split
  · exact absurd rfl hk
  · rcases hc with rfl | rfl <;> rfl
  · rcases hc with rfl | rfl <;> rfl
  · rcases hc with rfl | rfl <;> rfl
  · rfl
theorem ptok_kind {k : Nat} {t : List UInt8} {a : Nat} {x : Tk} (h : ptok k t a = .inr x) : x.k ≠ 0 := by
  unfold ptok at h
  split at h
  · unfold wrdT at h
    repeat' split at h
    all_goals first | (injection h with h; subst h; simp) | cases h
  · unfold numT at h
    repeat' split at h
    all_goals first | (injection h with h; subst h; simp) | cases h
  · unfold sgnT at h
    split at h
    all_goals first | (injection h with h; subst h; simp) | cases h
  · cases h
/-- The end is the last token alone. -/
theorem lex_last (k : Nat) (t : List UInt8) (a p : Nat) (l : List UInt8) (us : List Tk) (e : Tk) (h : lexL k t a p l = .inr (us ++ [e])) : ∀ x, x ∈ us → x.k ≠ 0 := by
  induction l generalizing k t a p us with
  | nil =>
    unfold lexL at h
    rcases shut_inr h with ⟨_, h2⟩ | ⟨_, x, vs, hp, h2, h3⟩
    · unfold endR at h2
      injection h2 with h2
      have : us = [] := by
        have := congrArg List.length h2
        simp at this
        exact this
      subst this
      intro x hx
      cases hx
    · unfold endR at h2
      injection h2 with h2
      subst h2
      have : us = [x] := by
        have h4 : us ++ [e] = [x] ++ [⟨0, 0, [], p⟩] := h3
        exact List.append_inj_left' h4 rfl
      subst this
      intro y hy
      simp at hy
      rw [hy]
      exact ptok_kind hp
  | cons c r ih =>
    unfold lexL at h
    split at h
    · exact ih _ _ _ _ _ h
    · rcases shut_inr h with ⟨_, h2⟩ | ⟨_, x, vs, hp, h2, h3⟩
      · exact ih _ _ _ _ _ h2
      · cases us with
        | nil => intro y hy; cases hy
        | cons z us =>
          rw [List.cons_append] at h3
          injection h3 with h4 h5
          subst h4 h5
          intro y hy
          rcases List.mem_cons.1 hy with rfl | hy
          · exact ptok_kind hp
          · exact ih _ _ _ _ _ h2 y hy
/-- What a text that is read tells of its reader. -/
theorem parse_text {s : List UInt8} {x : Ex} {t : List Tk} (h : parseA s = .ok x t) : ∃ us E, s.length ≤ 2000 ∧ lexA s = .inr (us ++ [E]) ∧ E = ⟨0, 0, [], s.length⟩ ∧ us.length ≤ s.length ∧ (∀ y, y ∈ us → y.k ≠ 0) ∧ partF 30000 1 0 0 (us ++ [E]) = .ok x [E] := by
  unfold parseA at h
  cases hs : scanA s with
  | inl z => obtain ⟨e, p⟩ := z; rw [hs] at h; cases h
  | inr ts =>
    rw [hs] at h
    have h : readF 30000 ts = .ok x t := h
    have hk := scan_ok hs
    obtain ⟨us, h1, _⟩ := lexL_thenG 0 [] 0 0 s ts 41 [] (par_tks 41 (.inr rfl)) hk.2.1
    rw [Nat.zero_add] at h1
    subst h1
    have hl := lex_last _ _ _ _ _ _ _ hk.2.1
    refine ⟨us, _, hk.1, hk.2.1, rfl, by have := hk.2.2.2.1; simp at this; exact this, hl, ?_⟩
    unfold readF at h
    cases hp : partF 30000 1 0 0 (us ++ [⟨0, 0, [], s.length⟩]) using Rs.on with
    | out => rw [hp] at h; cases h
    | bad e a => rw [hp] at h; cases h
    | ok y t0 =>
      rw [hp] at h
      have hsf := lq_part 30000 1 0 0 _ _ (List.suffix_refl _) y t0 hp
      cases t0 with
      | nil => cases h
      | cons z r =>
        simp only [Rs.bind] at h
        by_cases hz : z.k = 0
        · rw [if_pos hz] at h
          obtain ⟨h1, h2⟩ := Rs.ok_inj h
          subst h1
          obtain ⟨pre, hpre⟩ := hsf
          cases r with
          | nil =>
            have h3 : pre ++ [z] = us ++ [⟨0, 0, [], s.length⟩] := hpre
            have h4 := List.append_inj_right' h3 rfl
            rw [h4]
          | cons z2 r =>
            exfalso
            have h5 : z ∈ us := by
              have h6 : pre ++ z :: (z2 :: r) = us ++ [⟨0, 0, [], s.length⟩] := hpre
              have h7 : (pre ++ z :: (z2 :: r)).dropLast = us := by rw [h6]; simp
              rw [← h7]
              have : pre ++ z :: (z2 :: r) = (pre ++ [z]) ++ (z2 :: r) := by simp
              rw [this, List.dropLast_append_cons]
              simp
            exact hl z h5 hz
        · rw [if_neg hz] at h
          cases h
end Go.Proofs.YtafnlhnenmpfoaaGreatDoor
