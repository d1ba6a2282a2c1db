/- The document's own reader: calls that read trees, one behind another, with an error or without. -/
import Derived.Test.YtojleoionpnjpaaGreatDoorSynL
import Derived.Deep.LoopGhost
namespace Go.Proofs.YtojleoionpnjpaaGreatDoor
open Go.ChangeShapes Go.WideShapes Go.ChangeAt Go.RowKit
set_option linter.unusedVariables false
set_option linter.unusedSimpArgs false

/-- New blocks, but for one. -/
abbrev Nb (n bl : Nat) : Nat → Prop := fun b => n ≤ b ∧ b ≠ bl
theorem Sl.toB {n n1 bl : Nat} {w : World} {f : Fs} {ao : Option Addr} (h : Sl w (Nw n1) f ao) (hn : n ≤ n1) (hb : bl < n1) : Sl w (Nb n bl) f ao := h.mono (fun _ _ _ => rfl) (Nat.le_refl _) (fun k hk _ => ⟨Nat.le_trans hn hk, by have hk : n1 ≤ k := hk; omega⟩)
theorem Sl.toB' {n bl : Nat} {w : World} {f : Fs} {ao : Option Addr} (h : Sl w (Nw n) f ao) (hb : w.heap.size ≤ bl) : Sl w (Nb n bl) f ao := h.mono (fun _ _ _ => rfl) (Nat.le_refl _) (fun k hk hl => ⟨hk, by omega⟩)
theorem Sl.keepB {rb n bl : Nat} {w w' : World} {f : Fs} {ao : Option Addr} (h : Sl w (Nb n bl) f ao) (k : Keep rb w w') (hn : rb < n) : Sl w' (Nb n bl) f ao := h.mono (fun i hp hl => k.block i hl (by have := hp.1; omega)) k.size (fun _ h _ => h)
theorem Sl.allocB {P : Nat → Prop} {w : World} {f : Fs} {ao : Option Addr} (h : Sl w P f ao) (ob : Obj) : Sl (w.alloc ob) P f ao := h.mono (fun i hp hl => Below.heap_alloc w ob i hl) (by simp) (fun _ h _ => h)
theorem Sl.setB {n bl : Nat} {w : World} {f : Fs} {ao : Option Addr} (h : Sl w (Nb n bl) f ao) (p : Addr) (v : Value) (hp : p.block = bl ∨ p.block < n) : Sl (w.setCell p v) (Nb n bl) f ao := h.mono (fun i hi hl => heap_setCell_other w p i v (by have h1 := hi.1; have h2 := hi.2; rcases hp with hp | hp <;> omega)) (by simp) (fun _ h _ => h)
theorem Sl.set5B {n bl : Nat} {w : World} {f : Fs} {ao : Option Addr} (h : Sl w (Nb n bl) f ao) {b : Nat} (hb : b = bl ∨ b < n) (b0 b1 b2 b3 b4 : Value) : Sl (((((w.setCell ⟨b, 0, none⟩ b0).setCell ⟨b, 1, none⟩ b1).setCell ⟨b, 2, none⟩ b2).setCell ⟨b, 3, none⟩ b3).setCell ⟨b, 4, none⟩ b4) (Nb n bl) f ao := ((((h.setB ⟨b, 0, none⟩ b0 hb).setB ⟨b, 1, none⟩ b1 hb).setB ⟨b, 2, none⟩ b2 hb).setB ⟨b, 3, none⟩ b3 hb).setB ⟨b, 4, none⟩ b4 hb
theorem Sl.lowB {n bl m : Nat} {w : World} {f : Fs} {ao : Option Addr} (h : Sl w (Nb n bl) f ao) (hm : m ≤ n) : Sl w (Nw m) f ao := h.mono (fun _ _ _ => rfl) (Nat.le_refl _) (fun k hk _ => Nat.le_trans hm hk.1)
end Go.Proofs.YtojleoionpnjpaaGreatDoor
namespace Go.Proofs.YtojleoionpnjpaaGreatDoor
open Go.ChangeShapes Go.WideShapes Go.ChangeAt Go.RowKit
set_option linter.unusedVariables false
set_option linter.unusedSimpArgs false

def cwL : List (List UInt8) := callsL.map (·.1)
def qwL : List (List UInt8) := quantsL.map (·.1)
/-- A slice of words that is new. -/
def Wl (w : World) (L : List (List UInt8)) (w' : World) (g : Nat) : Prop := Below w.heap.size w w' ∧ w.heap.size ≤ g ∧ g < w'.heap.size ∧ ∀ j s, L[j]? = some s → w'.cell? ⟨g, j, none⟩ = some (stv s)
theorem wl_new (w : World) (L : List (List UInt8)) (t : TypeId) : Wl w L (w.alloc (.cells (L.map stv).toArray t)) w.heap.size := by
  refine ⟨(Below.refl _ w).alloc (Nat.le_refl _) _, Nat.le_refl _, by simp, fun j s hj => ?_⟩
  have hh : (w.alloc (.cells (L.map stv).toArray t)).heap[w.heap.size]? = some (.cells (L.map stv).toArray t (0, 0)) := heap_alloc_new w _
  rw [cell_of_row _ _ _ _ _ (0, 0) hh]
  simp [hj]
set_option maxRecDepth 100000 in
theorem calls_s (w : World) : Calls Tryz.prog 93 #[] w fun e w' => ∃ g, e = .returned (.slice (some ⟨g, 0, none⟩) 10 10) ∧ Wl w cwL w' g := by
  have H := wl_new w cwL 9
  have e1 : (cwL.map stv) = callsL.map (fun x => stv x.1) := rfl
  go_enter Tryz.func93, Tryz.ntmps93
  go_wp2
  go_ret
  exact ⟨_, rfl, H⟩
set_option maxRecDepth 100000 in
theorem quants_s (w : World) : Calls Tryz.prog 94 #[] w fun e w' => ∃ g, e = .returned (.slice (some ⟨g, 0, none⟩) 6 6) ∧ Wl w qwL w' g := by
  have H := wl_new w qwL 9
  go_enter Tryz.func94, Tryz.ntmps94
  go_wp2
  go_ret
  exact ⟨_, rfl, H⟩
abbrev bxE (e : Ex) (ao : Option Addr) (cap : Nat) : Obj := .cells #[.int .i64 e.k, .int .i64 e.n, stv e.nm, .slice ao e.kids.len cap, .int .i64 e.a] 25
theorem Fc.allocP {P : Nat → Prop} {w : World} {f : Fs} {xs : List Value} (h : Fc w P f xs) (ob : Obj) : Fc (w.alloc ob) P f xs := h.mono (fun i hp hl => Below.heap_alloc w ob i hl) (by simp) (fun _ h _ => h)
theorem Sl.freshP {w : World} {P : Nat → Prop} {f : Fs} (xs : List Value) (t : TypeId) (h : Fc w P f xs) (hp : P w.heap.size) : Sl (w.alloc (.cells xs.toArray t)) P f (some ⟨w.heap.size, 0, none⟩) := by
  refine Sl.of hp (by simp) (fun j u hu => ?_) (h.allocP _)
  rw [Nat.zero_add]
  rw [cell_of_row _ w.heap.size j _ t (0, 0) (heap_alloc_new w _)]
  simpa using hu
set_option maxRecDepth 100000 in
set_option maxHeartbeats 1000000 in
theorem two_s {w : World} {P : Nat → Prop} (k : Nat) (at0 : Int) {a b : Ex} {aoa aob : Option Addr} {ca cb : Nat} (ha : Sl w P a.kids aoa) (hb : Sl w P b.kids aob) (hn : P (w.heap.size + 1 + 1 + 1)) :
    Calls Tryz.prog 32 #[.int .i64 (k : Nat), .int .i64 at0, exV a aoa ca, exV b aob cb] w fun e w' => ∃ ao cap, e = .returned (exV ⟨(k : Nat), 0, [], at0, (one a).snoc b⟩ ao cap) ∧ Sl w' P ((one a).snoc b) ao ∧ Below w.heap.size w w' := by
  have s1 : (w.alloc (bxE a aoa ca)).heap.size = w.heap.size + 1 := by simp
  have s2 : ((w.alloc (bxE a aoa ca)).alloc (bxE b aob cb)).heap.size = w.heap.size + 1 + 1 := by simp
  have s3 : (((w.alloc (bxE a aoa ca)).alloc (bxE b aob cb)).alloc (bxE ⟨(k : Nat), 0, [], at0, (one a).snoc b⟩ (some ⟨w.heap.size + 1 + 1 + 1, 0, none⟩) 2)).heap.size = w.heap.size + 1 + 1 + 1 := by simp
  have hS := Sl.freshP _ 25 (Fc.app (Fc.one (e := a) ca (((ha.allocB (bxE a aoa ca)).allocB (bxE b aob cb)).allocB (bxE ⟨(k : Nat), 0, [], at0, (one a).snoc b⟩ (some ⟨w.heap.size + 1 + 1 + 1, 0, none⟩) 2))) (Fc.one (e := b) cb (((hb.allocB (bxE a aoa ca)).allocB (bxE b aob cb)).allocB (bxE ⟨(k : Nat), 0, [], at0, (one a).snoc b⟩ (some ⟨w.heap.size + 1 + 1 + 1, 0, none⟩) 2)))) (by rw [s3]; exact hn)
  have hZ : (((w.alloc (bxE a aoa ca)).alloc (bxE b aob cb)).alloc (bxE ⟨(k : Nat), 0, [], at0, (one a).snoc b⟩ (some ⟨w.heap.size + 1 + 1 + 1, 0, none⟩) 2)).heap[w.heap.size + 1 + 1]? = some (bxE ⟨(k : Nat), 0, [], at0, (one a).snoc b⟩ (some ⟨w.heap.size + 1 + 1 + 1, 0, none⟩) 2) := by
    have := heap_alloc_new ((w.alloc (bxE a aoa ca)).alloc (bxE b aob cb)) (bxE ⟨(k : Nat), 0, [], at0, (one a).snoc b⟩ (some ⟨w.heap.size + 1 + 1 + 1, 0, none⟩) 2)
    rw [s2] at this
    exact this
  have hZ2 := (Below.heap_alloc _ (.cells ([.int .i64 a.k, .int .i64 a.n, stv a.nm, .slice aoa a.kids.len ca, .int .i64 a.a] ++ [.int .i64 b.k, .int .i64 b.n, stv b.nm, .slice aob b.kids.len cb, .int .i64 b.a]).toArray 25) _ (lt_of_block hZ)).trans hZ
  have hB : Below w.heap.size w ((((w.alloc (bxE a aoa ca)).alloc (bxE b aob cb)).alloc (bxE ⟨(k : Nat), 0, [], at0, (one a).snoc b⟩ (some ⟨w.heap.size + 1 + 1 + 1, 0, none⟩) 2)).alloc (.cells ([.int .i64 a.k, .int .i64 a.n, stv a.nm, .slice aoa a.kids.len ca, .int .i64 a.a] ++ [.int .i64 b.k, .int .i64 b.n, stv b.nm, .slice aob b.kids.len cb, .int .i64 b.a]).toArray 25)) := ((((Below.refl _ w).alloc (by omega) _).alloc (by omega) _).alloc (by omega) _).alloc (by omega) _
  rw [s3] at hS
  have l2 : ((one a).snoc b).len = 2 := rfl
  obtain ⟨u0, u1, u2, u3, u4, -⟩ := box5 hZ2
  have FIN : Hid (∀ wx, wx = ((((w.alloc (bxE a aoa ca)).alloc (bxE b aob cb)).alloc (bxE ⟨(k : Nat), 0, [], at0, (one a).snoc b⟩ (some ⟨w.heap.size + 1 + 1 + 1, 0, none⟩) 2)).alloc (.cells ([.int .i64 a.k, .int .i64 a.n, stv a.nm, .slice aoa a.kids.len ca, .int .i64 a.a] ++ [.int .i64 b.k, .int .i64 b.n, stv b.nm, .slice aob b.kids.len cb, .int .i64 b.a]).toArray 25)) → Sl wx P ((one a).snoc b) (some ⟨w.heap.size + 1 + 1 + 1, 0, none⟩) ∧ Below w.heap.size w wx ∧ wx.cell? ⟨w.heap.size + 1 + 1, 0, none⟩ = some (.int .i64 (k : Nat)) ∧ wx.cell? ⟨w.heap.size + 1 + 1, 1, none⟩ = some (.int .i64 0) ∧ wx.cell? ⟨w.heap.size + 1 + 1, 2, none⟩ = some (stv []) ∧ wx.cell? ⟨w.heap.size + 1 + 1, 3, none⟩ = some (.slice (some ⟨w.heap.size + 1 + 1 + 1, 0, none⟩) 2 2) ∧ wx.cell? ⟨w.heap.size + 1 + 1, 4, none⟩ = some (.int .i64 at0)) := fun wx e => by
    subst e
    exact ⟨hS, hB, u0, u1, u2, u3, u4⟩
  clear hS hB hZ hZ2 u0 u1 u2 u3 u4 s1 s2 s3 l2 ha hb
  unfold exV
  go_enter Tryz.func32, Tryz.ntmps32
  go_wp2
  obtain ⟨f1, f2, u0, u1, u2, u3, u4⟩ := FIN.out _ rfl
  exact bodyPost_ret (v := exV ⟨(k : Nat), 0, [], at0, (one a).snoc b⟩ (some ⟨w.heap.size + 1 + 1 + 1, 0, none⟩) 2) (by simp [results, Tryz.results32, go_sem, exV]; rfl) rfl ⟨_, _, rfl, f1, f2⟩
end Go.Proofs.YtojleoionpnjpaaGreatDoor
namespace Go.Proofs.YtojleoionpnjpaaGreatDoor
open Go.ChangeShapes Go.WideShapes Go.ChangeAt Go.RowKit
set_option linter.unusedVariables false
set_option linter.unusedSimpArgs false

def sgW : Nat → List (List UInt8)
  | 1 => [[111, 114]]
  | 2 => [[97, 110, 100]]
  | 4 => [[61], [33, 61], [60, 61], [60]]
  | 5 => [[43], [45]]
  | _ => [[42], [47], [37]]
def sgK : Nat → List Nat
  | 1 => [18]
  | 2 => [17]
  | 4 => [13, 14, 16, 15]
  | 5 => [8, 9]
  | _ => [10, 11, 12]
/-- Two new slices: words and kinds. -/
def Sg (w : World) (row : Nat) (w' : World) (g1 g2 : Nat) : Prop := Wl w (sgW row) w' g1 ∧ w.heap.size ≤ g2 ∧ g2 < w'.heap.size ∧ ∀ j k, (sgK row)[j]? = some k → w'.cell? ⟨g2, j, none⟩ = some (.int .i64 (k : Nat))
theorem sg_12 (w : World) (row : Nat) (t1 t2 : TypeId) : Sg w row ((w.alloc (.cells ((sgW row).map stv).toArray t1)).alloc (.cells ((sgK row).map (fun k => Value.int .i64 (k : Nat))).toArray t2)) w.heap.size (w.heap.size + 1) := by
  obtain ⟨h1, h2, h3, h4⟩ := wl_new w (sgW row) t1
  have hs : (w.alloc (.cells ((sgW row).map stv).toArray t1)).heap.size = w.heap.size + 1 := by simp
  refine ⟨⟨h1.alloc (by omega) _, h2, by simp; omega, fun j s hj => ?_⟩, by omega, by simp, fun j k hj => ?_⟩
  · exact (World.cell?_of_block (a := ⟨w.heap.size, j, none⟩) (Below.heap_alloc _ _ _ h3)).trans (h4 j s hj)
  · have hh := heap_alloc_new (w.alloc (.cells ((sgW row).map stv).toArray t1)) (.cells ((sgK row).map (fun k => Value.int .i64 (k : Nat))).toArray t2)
    rw [hs] at hh
    rw [cell_of_row _ _ _ _ _ (0, 0) hh]
    simp [hj]
theorem sg_21 (w : World) (row : Nat) (t1 t2 : TypeId) : Sg w row ((w.alloc (.cells ((sgK row).map (fun k => Value.int .i64 (k : Nat))).toArray t2)).alloc (.cells ((sgW row).map stv).toArray t1)) (w.heap.size + 1) w.heap.size := by
  have hs : (w.alloc (.cells ((sgK row).map (fun k => Value.int .i64 (k : Nat))).toArray t2)).heap.size = w.heap.size + 1 := by simp
  obtain ⟨h1, h2, h3, h4⟩ := wl_new (w.alloc (.cells ((sgK row).map (fun k => Value.int .i64 (k : Nat))).toArray t2)) (sgW row) t1
  rw [hs] at h2 h3 h4
  have b1 : Below w.heap.size w (w.alloc (.cells ((sgK row).map (fun k => Value.int .i64 (k : Nat))).toArray t2)) := (Below.refl _ w).alloc (Nat.le_refl _) _
  refine ⟨⟨b1.trans (h1.mono (by omega)), by omega, h3, h4⟩, by omega, by omega, fun j k hj => ?_⟩
  have hh := heap_alloc_new w (.cells ((sgK row).map (fun k => Value.int .i64 (k : Nat))).toArray t2)
  have hh2 := (Below.heap_alloc (w.alloc (.cells ((sgK row).map (fun k => Value.int .i64 (k : Nat))).toArray t2)) (.cells ((sgW row).map stv).toArray t1) _ (lt_of_block hh)).trans hh
  rw [cell_of_row _ _ _ _ _ (0, 0) hh2]
  simp [hj]
set_option maxRecDepth 100000 in
set_option maxHeartbeats 1000000 in
theorem signs_s (w : World) (row n : Nat) (hr : row = 1 ∨ row = 2 ∨ row = 4 ∨ row = 5 ∨ row = 6) (hn : n = (sgW row).length) :
    Calls Tryz.prog 30 #[.int .i64 (row : Nat)] w fun e w' => ∃ g1 g2, e = .returned (.tuple #[.slice (some ⟨g1, 0, none⟩) n n, .slice (some ⟨g2, 0, none⟩) n n]) ∧ Sg w row w' g1 g2 := by
  have H1 := Lib.hid (fun w2 : World => sg_12 w2 row 9 3)
  have H2 := Lib.hid (fun w2 : World => sg_21 w2 row 9 3)
  rcases hr with rfl | rfl | rfl | rfl | rfl
  all_goals
    subst hn
    go_enter Tryz.func30, Tryz.ntmps30
    go_wp2
    go_ret2
    exact ⟨_, _, rfl, H1.out w⟩
end Go.Proofs.YtojleoionpnjpaaGreatDoor
namespace Go.Proofs.YtojleoionpnjpaaGreatDoor
open Go.ChangeShapes Go.WideShapes Go.ChangeAt Go.RowKit
set_option linter.unusedVariables false
set_option linter.unusedSimpArgs false

/-- From a state, a reader comes to a state; where it has no error it has read X. -/
def Qd {α : Type} (f : List Tk → Rs α) (st : Sq) (X : α) (st' : Sq) : Prop := st' = onw f st ∧ ∀ ts y t, st = .inr ts → f ts = .ok y t → X = y
/-- It has strength. -/
def Nou {α : Type} (f : List Tk → Rs α) (st : Sq) : Prop := ∀ ts, st = .inr ts → f ts ≠ .out
theorem Nou.fst {α β : Type} {f : List Tk → Rs α} {g : α → List Tk → Rs β} {st : Sq} (h : Nou (fun ts => (f ts).bind g) st) : Nou f st := fun ts hs e => h ts hs (by show (f ts).bind g = _; rw [e]; rfl)
theorem Nou.snd {α β : Type} {f : List Tk → Rs α} {g : α → List Tk → Rs β} {st st' : Sq} {x : α} (h : Nou (fun ts => (f ts).bind g) st) (q : Qd f st x st') : Nou (g x) st' := by
  obtain ⟨rfl, q⟩ := q
  match st with
  | .inl ea => intro ts hs; cases hs
  | .inr t0 =>
    intro ts hs e
    cases hf : f t0 using Rs.on with
    | out => exact h t0 rfl (by show (f t0).bind g = _; rw [hf]; rfl)
    | bad e2 a => simp [onw, hf, stp] at hs
    | ok y t =>
      have e1 := q t0 y t rfl hf
      subst e1
      have e2 : t = ts := by simpa [onw, hf, stp] using hs
      subst e2
      exact h t0 rfl (by show (f t0).bind g = _; rw [hf]; exact e)
theorem Qd.bind {α β : Type} {f : List Tk → Rs α} {g : α → List Tk → Rs β} {st st1 st' : Sq} {x : α} {X : β} (p : Qd f st x st1) (q : Qd (g x) st1 X st') : Qd (fun ts => (f ts).bind g) st X st' := by
  obtain ⟨rfl, p⟩ := p
  obtain ⟨rfl, q⟩ := q
  match st with
  | .inl ea => exact ⟨rfl, fun ts y t hs => by cases hs⟩
  | .inr t0 =>
    cases hf : f t0 using Rs.on with
    | out =>
      refine ⟨by simp [onw, hf, stp, Rs.bind], fun ts y t hs hb => ?_⟩
      cases hs
      have hb : (f t0).bind g = _ := hb
      rw [hf] at hb; cases hb
    | bad e a =>
      refine ⟨by simp [onw, hf, stp, Rs.bind], fun ts y t hs hb => ?_⟩
      cases hs
      have hb : (f t0).bind g = _ := hb
      rw [hf] at hb; cases hb
    | ok y t =>
      have e1 := p t0 y t rfl hf
      subst e1
      refine ⟨by simp [onw, hf, stp, Rs.bind], fun ts z t2 hs hb => ?_⟩
      cases hs
      have hb : (f t0).bind g = _ := hb
      rw [hf] at hb
      exact q t z t2 (by simp [onw, hf, stp]) hb
theorem Qd.ret {α : Type} (X : α) (st : Sq) : Qd (fun t => .ok X t) st X st := by
  match st with
  | .inl ea => exact ⟨rfl, fun ts y t hs => by cases hs⟩
  | .inr t0 => exact ⟨rfl, fun ts y t hs hb => (Rs.ok_inj hb).1⟩
theorem Qd.any {α : Type} [Inhabited α] (f : List Tk → Rs α) (st : Sq) : ∃ X, Qd f st X (onw f st) := by
  match st with
  | .inl ea => exact ⟨default, rfl, fun ts y t hs => by cases hs⟩
  | .inr t0 =>
    cases hf : f t0 using Rs.on with
    | out => exact ⟨default, rfl, fun ts y t hs hb => by cases hs; rw [hf] at hb; cases hb⟩
    | bad e a => exact ⟨default, rfl, fun ts y t hs hb => by cases hs; rw [hf] at hb; cases hb⟩
    | ok y t => exact ⟨y, rfl, fun ts z t2 hs hb => by cases hs; rw [hf] at hb; exact (Rs.ok_inj hb).1⟩
theorem Qd.congr {α : Type} {f g : List Tk → Rs α} {st st' : Sq} {X : α} (h : Qd f st X st') (e : ∀ ts, st = .inr ts → f ts = g ts) : Qd g st X st' := by
  obtain ⟨rfl, h⟩ := h
  match st with
  | .inl ea => exact ⟨rfl, fun ts y t hs => by cases hs⟩
  | .inr t0 => exact ⟨by simp only [onw]; rw [e t0 rfl], fun ts y t hs hb => by rw [← e ts hs] at hb; exact h ts y t hs hb⟩
theorem Nou.congr {α : Type} {f g : List Tk → Rs α} {st : Sq} (h : Nou f st) (e : ∀ ts, st = .inr ts → f ts = g ts) : Nou g st := fun ts hs => by rw [← e ts hs]; exact h ts hs
/-- What a call that reads a tree answers and leaves. -/
def PostQ (rb : Nat) (all : List Tk) (o q : Nat) (w : World) (st : Sq) (f : List Tk → Rs Ex) (e : Ending) (w' : World) : Prop :=
  ∃ X ao cap st', e = .returned (exV X ao cap) ∧ Sl w' (Nw w.heap.size) X.kids ao ∧ QS w' rb all o q st' ∧ Keep rb w w' ∧ Qd f st X st'
/-- The document's reader of rows does as a plain one. -/
def RecQ (rec : Rdr) : Prop :=
  ∀ (w : World) (rb : Nat) (all : List Tk) (row o q : Nat) (st : Sq), (∀ x, x ∈ all → TokI x) → 1 ≤ row → row ≤ 7 → QS w rb all o q st → Nou (rec row o q) st → Calls Tryz.prog 16 #[.pointer (some ⟨rb, 0, none⟩), .int .i64 (row : Nat)] w (PostQ rb all o q w st (rec row o q))
theorem QS.alloc {w : World} {rb o q : Nat} {all : List Tk} {st : Sq} (h : QS w rb all o q st) (ob : Obj) : QS (w.alloc ob) rb all o q st := h.below ((Below.refl _ w).alloc (Nat.le_refl _) ob)
theorem Rq.setP {w : World} {rb i : Nat} {o q : Int} {er pl : Nat} {all : List Tk} (h : Rq w rb i o q er pl all) (p : Addr) (v : Value) (hp : rb < p.block) : Rq (w.setCell p v) rb i o q er pl all := by
  obtain ⟨g, cap, h1, h2, h4, h5⟩ := h
  exact ⟨g, cap, (heap_setCell_other w p rb v (by omega)).trans h1, h2, fun j u hu => (World.cell?_of_block (a := ⟨g, j, none⟩) (heap_setCell_other w p g v (by omega))).trans (h4 j u hu), h5⟩
theorem QS.setP {w : World} {rb o q : Nat} {all : List Tk} {st : Sq} (h : QS w rb all o q st) (p : Addr) (v : Value) (hp : rb < p.block) : QS (w.setCell p v) rb all o q st := by
  match st, h with
  | .inl (er, a), ⟨i, o', q', h1, h2⟩ => exact ⟨i, o', q', h1.setP p v hp, h2⟩
  | .inr ts, ⟨i, pl, h1, h2⟩ => exact ⟨i, pl, h1.setP p v hp, h2⟩
theorem QS.set5 {w : World} {rb o q : Nat} {all : List Tk} {st : Sq} (h : QS w rb all o q st) {b : Nat} (hb : rb < b) (b0 b1 b2 b3 b4 : Value) : QS (((((w.setCell ⟨b, 0, none⟩ b0).setCell ⟨b, 1, none⟩ b1).setCell ⟨b, 2, none⟩ b2).setCell ⟨b, 3, none⟩ b3).setCell ⟨b, 4, none⟩ b4) rb all o q st := ((((h.setP ⟨b, 0, none⟩ b0 hb).setP ⟨b, 1, none⟩ b1 hb).setP ⟨b, 2, none⟩ b2 hb).setP ⟨b, 3, none⟩ b3 hb).setP ⟨b, 4, none⟩ b4 hb
/-- An opening that comes next is taken. -/
theorem opens_s {w : World} {rb o q : Nat} {all : List Tk} {x : Tk} {r : List Tk} (s : List UInt8) (hs : s ≠ []) (hx : x.t = s) (h : QS w rb all o q (.inr (x :: r))) :
    Calls Tryz.prog 61 #[.pointer (some ⟨rb, 0, none⟩)] w fun e w' => e = .returned (.tuple #[]) ∧ QS w' rb all (o + 1) q (onw (enterT s o) (.inr (x :: r))) ∧ Keep rb w w' := by
  by_cases h64 : o = 64
  · subst h64
    have e1 : onw (enterT s 64) (.inr (x :: r)) = .inl (121, x.a) := by simp [onw, enterT, hx, stp]
    rw [e1]
    exact open_no h
  · have e1 : onw (enterT s o) (.inr (x :: r)) = .inr r := by simp [onw, enterT, hx, stp, h64]
    rw [e1]
    exact open_ok (by have := h.le.1; omega) (by rw [hx]; exact hs) h
theorem enter_q {o : Nat} {x : Tk} {r : List Tk} (s : List UInt8) : Qd (enterT s o) (.inr (x :: r)) x.a (onw (enterT s o) (.inr (x :: r))) := by
  refine ⟨rfl, fun ts y t hs hb => ?_⟩
  cases hs
  unfold enterT at hb
  by_cases hx : x.t = s
  · by_cases h64 : o = 64
    · simp [hx, h64] at hb
    · simp [hx, h64] at hb; exact hb.1
  · simp [hx] at hb
/-- What is left to be read, and what it makes of the whole. -/
def Ctx {β : Type} (F : List Tk → Rs β) (st0 : Sq) (G : List Tk → Rs β) (st : Sq) : Prop := Nou G st ∧ ∀ X st', Qd G st X st' → Qd F st0 X st'
theorem Ctx.start {β : Type} {F : List Tk → Rs β} {st : Sq} (h : Nou F st) : Ctx F st F st := ⟨h, fun _ _ q => q⟩
theorem Ctx.nou {α β : Type} {F : List Tk → Rs β} {st0 st : Sq} {f : List Tk → Rs α} {g : α → List Tk → Rs β} (h : Ctx F st0 (fun ts => (f ts).bind g) st) : Nou f st := h.1.fst
theorem Ctx.step {α β : Type} {F : List Tk → Rs β} {st0 st st1 : Sq} {f : List Tk → Rs α} {g : α → List Tk → Rs β} {x : α} (h : Ctx F st0 (fun ts => (f ts).bind g) st) (q : Qd f st x st1) : Ctx F st0 (g x) st1 := ⟨h.1.snd q, fun X st' q2 => h.2 X st' (q.bind q2)⟩
theorem Ctx.fin {β : Type} {F : List Tk → Rs β} {st0 st : Sq} {X : β} (h : Ctx F st0 (fun t => .ok X t) st) : Qd F st0 X st := h.2 X st (Qd.ret X st)
/-- What a call that reads no tree leaves. -/
def PostV (rb : Nat) (all : List Tk) (o q : Nat) (w : World) (st : Sq) (f : List Tk → Rs Nat) (e : Ending) (w' : World) : Prop :=
  ∃ X st', e = .returned (.tuple #[]) ∧ QS w' rb all o q st' ∧ Keep rb w w' ∧ Qd f st X st'
theorem postV {rb : Nat} {all : List Tk} {o q : Nat} {w : World} {st : Sq} (f : List Tk → Rs Nat) {e : Ending} {w' : World} (h : e = .returned (.tuple #[]) ∧ QS w' rb all o q (onw f st) ∧ Keep rb w w') : PostV rb all o q w st f e w' := by
  obtain ⟨X, hX⟩ := Qd.any f st
  exact ⟨X, _, h.1, h.2.1, h.2.2, hX⟩
theorem take_v {w : World} {rb o q : Nat} {all : List Tk} {st : Sq} (TI : ∀ x, x ∈ all → TokI x) (s : List UInt8) (hs : s ≠ [] ∧ nameB s = false) (h : QS w rb all o q st) :
    Calls Tryz.prog 119 #[.pointer (some ⟨rb, 0, none⟩), stv s] w (PostV rb all o q w st (passT s)) := (take_s TI s hs.1 hs.2 h).mono fun _ _ hh => postV _ hh
theorem close_v {w : World} {rb o q : Nat} {all : List Tk} {st : Sq} (TI : ∀ x, x ∈ all → TokI x) (s : List UInt8) (hs : s ≠ [] ∧ nameB s = false) (h : QS w rb all (o + 1) q st) :
    Calls Tryz.prog 96 #[.pointer (some ⟨rb, 0, none⟩), stv s] w (PostV rb all o q w st (passT s)) := (close_s TI s hs.1 hs.2 h).mono fun _ _ hh => postV _ hh
theorem bracket_v {w : World} {rb o q : Nat} {all : List Tk} {st : Sq} (TI : ∀ x, x ∈ all → TokI x) (s : List UInt8) (hs : s ≠ [] ∧ nameB s = false) (h : QS w rb all o q st) :
    Calls Tryz.prog 95 #[.pointer (some ⟨rb, 0, none⟩), stv s] w (PostV rb all (o + 1) q w st (enterT s o)) := (bracket_s TI s hs.1 hs.2 h).mono fun _ _ hh => by
  obtain ⟨X, hX⟩ := Qd.any (enterT s o) st
  exact ⟨X, _, hh.1, hh.2.1, hh.2.2, hX⟩
end Go.Proofs.YtojleoionpnjpaaGreatDoor
