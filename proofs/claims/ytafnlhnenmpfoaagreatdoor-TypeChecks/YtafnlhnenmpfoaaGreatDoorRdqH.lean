/- The document's own reader: an if. -/
import Derived.Test.YtafnlhnenmpfoaaGreatDoorSynN
namespace Go.Proofs.YtafnlhnenmpfoaaGreatDoor
open Go.ChangeShapes Go.WideShapes Go.ChangeAt Go.RowKit
set_option linter.unusedVariables false
set_option linter.unusedSimpArgs false

def cwL : List (List UInt8) := callsL.map (·.1)
def qwL : List (List UInt8) := quantsL.map (·.1)
/-- A slice of words that is new. -/
def Wl (w : World) (L : List (List UInt8)) (w' : World) (g : Nat) : Prop := Below w.heap.size w w' ∧ w.heap.size ≤ g ∧ g < w'.heap.size ∧ ∀ j s, L[j]? = some s → w'.cell? ⟨g, j, none⟩ = some (stv s)
theorem wl_new (w : World) (L : List (List UInt8)) (t : TypeId) : Wl w L (w.alloc (.cells (L.map stv).toArray t)) w.heap.size := by
  refine ⟨(Below.refl _ w).alloc (Nat.le_refl _) _, Nat.le_refl _, by simp, fun j s hj => ?_⟩
  have hh : (w.alloc (.cells (L.map stv).toArray t)).heap[w.heap.size]? = some (.cells (L.map stv).toArray t (0, 0)) := heap_alloc_new w _
  rw [cell_of_row _ _ _ _ _ (0, 0) hh]
  simp [hj]
set_option maxRecDepth 100000 in
theorem calls_s (w : World) : Calls Tryz.prog 107 #[] w fun e w' => ∃ g, e = .returned (.slice (some ⟨g, 0, none⟩) 10 10) ∧ Wl w cwL w' g := by
  have H := wl_new w cwL 9
  have e1 : (cwL.map stv) = callsL.map (fun x => stv x.1) := rfl
  go_enter Tryz.func107, Tryz.ntmps107
  go_wp2
  go_ret
  exact ⟨_, rfl, H⟩
set_option maxRecDepth 100000 in
theorem quants_s (w : World) : Calls Tryz.prog 108 #[] w fun e w' => ∃ g, e = .returned (.slice (some ⟨g, 0, none⟩) 6 6) ∧ Wl w qwL w' g := by
  have H := wl_new w qwL 9
  go_enter Tryz.func108, Tryz.ntmps108
  go_wp2
  go_ret
  exact ⟨_, rfl, H⟩
abbrev bxE (e : Ex) (ao : Option Addr) (cap : Nat) : Obj := .cells #[.int .i64 e.k, .int .i64 e.n, stv e.nm, .slice ao e.kids.len cap, .int .i64 e.a] 25
theorem Fc.allocP {P : Nat → Prop} {w : World} {f : Fs} {xs : List Value} (h : Fc w P f xs) (ob : Obj) : Fc (w.alloc ob) P f xs := h.mono (fun i hp hl => Below.heap_alloc w ob i hl) (by simp) (fun _ h _ => h)
theorem Sl.freshP {w : World} {P : Nat → Prop} {f : Fs} (xs : List Value) (t : TypeId) (h : Fc w P f xs) (hp : P w.heap.size) : Sl (w.alloc (.cells xs.toArray t)) P f (some ⟨w.heap.size, 0, none⟩) := by
  refine Sl.of hp (by simp) (fun j u hu => ?_) (h.allocP _)
  rw [Nat.zero_add]
  rw [cell_of_row _ w.heap.size j _ t (0, 0) (heap_alloc_new w _)]
  simpa using hu
set_option maxRecDepth 100000 in
set_option maxHeartbeats 1000000 in
theorem two_s {w : World} {P : Nat → Prop} (k : Nat) (at0 : Int) {a b : Ex} {aoa aob : Option Addr} {ca cb : Nat} (ha : Sl w P a.kids aoa) (hb : Sl w P b.kids aob) (hn : P (w.heap.size + 1 + 1 + 1)) :
    Calls Tryz.prog 38 #[.int .i64 (k : Nat), .int .i64 at0, exV a aoa ca, exV b aob cb] w fun e w' => ∃ ao cap, e = .returned (exV ⟨(k : Nat), 0, [], at0, (one a).snoc b⟩ ao cap) ∧ Sl w' P ((one a).snoc b) ao ∧ Below w.heap.size w w' := by
  have s1 : (w.alloc (bxE a aoa ca)).heap.size = w.heap.size + 1 := by simp
  have s2 : ((w.alloc (bxE a aoa ca)).alloc (bxE b aob cb)).heap.size = w.heap.size + 1 + 1 := by simp
  have s3 : (((w.alloc (bxE a aoa ca)).alloc (bxE b aob cb)).alloc (bxE ⟨(k : Nat), 0, [], at0, (one a).snoc b⟩ (some ⟨w.heap.size + 1 + 1 + 1, 0, none⟩) 2)).heap.size = w.heap.size + 1 + 1 + 1 := by simp
  have hS := Sl.freshP _ 25 (Fc.app (Fc.one (e := a) ca (((ha.allocB (bxE a aoa ca)).allocB (bxE b aob cb)).allocB (bxE ⟨(k : Nat), 0, [], at0, (one a).snoc b⟩ (some ⟨w.heap.size + 1 + 1 + 1, 0, none⟩) 2))) (Fc.one (e := b) cb (((hb.allocB (bxE a aoa ca)).allocB (bxE b aob cb)).allocB (bxE ⟨(k : Nat), 0, [], at0, (one a).snoc b⟩ (some ⟨w.heap.size + 1 + 1 + 1, 0, none⟩) 2)))) (by rw [s3]; exact hn)
  have hZ : (((w.alloc (bxE a aoa ca)).alloc (bxE b aob cb)).alloc (bxE ⟨(k : Nat), 0, [], at0, (one a).snoc b⟩ (some ⟨w.heap.size + 1 + 1 + 1, 0, none⟩) 2)).heap[w.heap.size + 1 + 1]? = some (bxE ⟨(k : Nat), 0, [], at0, (one a).snoc b⟩ (some ⟨w.heap.size + 1 + 1 + 1, 0, none⟩) 2) := by
    have := heap_alloc_new ((w.alloc (bxE a aoa ca)).alloc (bxE b aob cb)) (bxE ⟨(k : Nat), 0, [], at0, (one a).snoc b⟩ (some ⟨w.heap.size + 1 + 1 + 1, 0, none⟩) 2)
    rw [s2] at this
    exact this
  have hZ2 := (Below.heap_alloc _ (.cells ([.int .i64 a.k, .int .i64 a.n, stv a.nm, .slice aoa a.kids.len ca, .int .i64 a.a] ++ [.int .i64 b.k, .int .i64 b.n, stv b.nm, .slice aob b.kids.len cb, .int .i64 b.a]).toArray 25) _ (lt_of_block hZ)).trans hZ
  have hB : Below w.heap.size w ((((w.alloc (bxE a aoa ca)).alloc (bxE b aob cb)).alloc (bxE ⟨(k : Nat), 0, [], at0, (one a).snoc b⟩ (some ⟨w.heap.size + 1 + 1 + 1, 0, none⟩) 2)).alloc (.cells ([.int .i64 a.k, .int .i64 a.n, stv a.nm, .slice aoa a.kids.len ca, .int .i64 a.a] ++ [.int .i64 b.k, .int .i64 b.n, stv b.nm, .slice aob b.kids.len cb, .int .i64 b.a]).toArray 25)) := ((((Below.refl _ w).alloc (by omega) _).alloc (by omega) _).alloc (by omega) _).alloc (by omega) _
  rw [s3] at hS
  have l2 : ((one a).snoc b).len = 2 := rfl
  obtain ⟨u0, u1, u2, u3, u4, -⟩ := box5 hZ2
  have FIN : Hid (∀ wx, wx = ((((w.alloc (bxE a aoa ca)).alloc (bxE b aob cb)).alloc (bxE ⟨(k : Nat), 0, [], at0, (one a).snoc b⟩ (some ⟨w.heap.size + 1 + 1 + 1, 0, none⟩) 2)).alloc (.cells ([.int .i64 a.k, .int .i64 a.n, stv a.nm, .slice aoa a.kids.len ca, .int .i64 a.a] ++ [.int .i64 b.k, .int .i64 b.n, stv b.nm, .slice aob b.kids.len cb, .int .i64 b.a]).toArray 25)) → Sl wx P ((one a).snoc b) (some ⟨w.heap.size + 1 + 1 + 1, 0, none⟩) ∧ Below w.heap.size w wx ∧ wx.cell? ⟨w.heap.size + 1 + 1, 0, none⟩ = some (.int .i64 (k : Nat)) ∧ wx.cell? ⟨w.heap.size + 1 + 1, 1, none⟩ = some (.int .i64 0) ∧ wx.cell? ⟨w.heap.size + 1 + 1, 2, none⟩ = some (stv []) ∧ wx.cell? ⟨w.heap.size + 1 + 1, 3, none⟩ = some (.slice (some ⟨w.heap.size + 1 + 1 + 1, 0, none⟩) 2 2) ∧ wx.cell? ⟨w.heap.size + 1 + 1, 4, none⟩ = some (.int .i64 at0)) := fun wx e => by
    subst e
    exact ⟨hS, hB, u0, u1, u2, u3, u4⟩
  clear hS hB hZ hZ2 u0 u1 u2 u3 u4 s1 s2 s3 l2 ha hb
  unfold exV
  go_enter Tryz.func38, Tryz.ntmps38
  go_wp2
  obtain ⟨f1, f2, u0, u1, u2, u3, u4⟩ := FIN.out _ rfl
  exact bodyPost_ret (v := exV ⟨(k : Nat), 0, [], at0, (one a).snoc b⟩ (some ⟨w.heap.size + 1 + 1 + 1, 0, none⟩) 2) (by simp [results, Tryz.results38, go_sem, exV]; rfl) rfl ⟨_, _, rfl, f1, f2⟩
end Go.Proofs.YtafnlhnenmpfoaaGreatDoor
namespace Go.Proofs.YtafnlhnenmpfoaaGreatDoor
open Go.ChangeShapes Go.WideShapes Go.ChangeAt Go.RowKit
set_option linter.unusedVariables false
set_option linter.unusedSimpArgs false

def sgW : Nat → List (List UInt8)
  | 1 => [[111, 114]]
  | 2 => [[97, 110, 100]]
  | 4 => [[61], [33, 61], [60, 61], [60]]
  | 5 => [[43], [45]]
  | _ => [[42], [47], [37]]
def sgK : Nat → List Nat
  | 1 => [18]
  | 2 => [17]
  | 4 => [13, 14, 16, 15]
  | 5 => [8, 9]
  | _ => [10, 11, 12]
/-- Two new slices: words and kinds. -/
def Sg (w : World) (row : Nat) (w' : World) (g1 g2 : Nat) : Prop := Wl w (sgW row) w' g1 ∧ w.heap.size ≤ g2 ∧ g2 < w'.heap.size ∧ ∀ j k, (sgK row)[j]? = some k → w'.cell? ⟨g2, j, none⟩ = some (.int .i64 (k : Nat))
theorem sg_12 (w : World) (row : Nat) (t1 t2 : TypeId) : Sg w row ((w.alloc (.cells ((sgW row).map stv).toArray t1)).alloc (.cells ((sgK row).map (fun k => Value.int .i64 (k : Nat))).toArray t2)) w.heap.size (w.heap.size + 1) := by
  obtain ⟨h1, h2, h3, h4⟩ := wl_new w (sgW row) t1
  have hs : (w.alloc (.cells ((sgW row).map stv).toArray t1)).heap.size = w.heap.size + 1 := by simp
  refine ⟨⟨h1.alloc (by omega) _, h2, by simp; omega, fun j s hj => ?_⟩, by omega, by simp, fun j k hj => ?_⟩
  · exact (World.cell?_of_block (a := ⟨w.heap.size, j, none⟩) (Below.heap_alloc _ _ _ h3)).trans (h4 j s hj)
  · have hh := heap_alloc_new (w.alloc (.cells ((sgW row).map stv).toArray t1)) (.cells ((sgK row).map (fun k => Value.int .i64 (k : Nat))).toArray t2)
    rw [hs] at hh
    rw [cell_of_row _ _ _ _ _ (0, 0) hh]
    simp [hj]
theorem sg_21 (w : World) (row : Nat) (t1 t2 : TypeId) : Sg w row ((w.alloc (.cells ((sgK row).map (fun k => Value.int .i64 (k : Nat))).toArray t2)).alloc (.cells ((sgW row).map stv).toArray t1)) (w.heap.size + 1) w.heap.size := by
  have hs : (w.alloc (.cells ((sgK row).map (fun k => Value.int .i64 (k : Nat))).toArray t2)).heap.size = w.heap.size + 1 := by simp
  obtain ⟨h1, h2, h3, h4⟩ := wl_new (w.alloc (.cells ((sgK row).map (fun k => Value.int .i64 (k : Nat))).toArray t2)) (sgW row) t1
  rw [hs] at h2 h3 h4
  have b1 : Below w.heap.size w (w.alloc (.cells ((sgK row).map (fun k => Value.int .i64 (k : Nat))).toArray t2)) := (Below.refl _ w).alloc (Nat.le_refl _) _
  refine ⟨⟨b1.trans (h1.mono (by omega)), by omega, h3, h4⟩, by omega, by omega, fun j k hj => ?_⟩
  have hh := heap_alloc_new w (.cells ((sgK row).map (fun k => Value.int .i64 (k : Nat))).toArray t2)
  have hh2 := (Below.heap_alloc (w.alloc (.cells ((sgK row).map (fun k => Value.int .i64 (k : Nat))).toArray t2)) (.cells ((sgW row).map stv).toArray t1) _ (lt_of_block hh)).trans hh
  rw [cell_of_row _ _ _ _ _ (0, 0) hh2]
  simp [hj]
set_option maxRecDepth 100000 in
set_option maxHeartbeats 1000000 in
theorem signs_s (w : World) (row n : Nat) (hr : row = 1 ∨ row = 2 ∨ row = 4 ∨ row = 5 ∨ row = 6) (hn : n = (sgW row).length) :
    Calls Tryz.prog 36 #[.int .i64 (row : Nat)] w fun e w' => ∃ g1 g2, e = .returned (.tuple #[.slice (some ⟨g1, 0, none⟩) n n, .slice (some ⟨g2, 0, none⟩) n n]) ∧ Sg w row w' g1 g2 := by
  have H1 := Lib.hid (fun w2 : World => sg_12 w2 row 9 3)
  have H2 := Lib.hid (fun w2 : World => sg_21 w2 row 9 3)
  rcases hr with rfl | rfl | rfl | rfl | rfl
  all_goals
    subst hn
    go_enter Tryz.func36, Tryz.ntmps36
    go_wp2
    go_ret2
    exact ⟨_, _, rfl, H1.out w⟩
end Go.Proofs.YtafnlhnenmpfoaaGreatDoor
namespace Go.Proofs.YtafnlhnenmpfoaaGreatDoor
open Go.ChangeShapes Go.WideShapes Go.ChangeAt Go.RowKit
set_option linter.unusedVariables false
set_option linter.unusedSimpArgs false

/-- From a state, a reader comes to a state; where it has no error it has read X. -/
def Qd {α : Type} (f : List Tk → Rs α) (st : Sq) (X : α) (st' : Sq) : Prop := st' = onw f st ∧ ∀ ts y t, st = .inr ts → f ts = .ok y t → X = y
/-- It has strength. -/
def Nou {α : Type} (f : List Tk → Rs α) (st : Sq) : Prop := ∀ ts, st = .inr ts → f ts ≠ .out
theorem Nou.fst {α β : Type} {f : List Tk → Rs α} {g : α → List Tk → Rs β} {st : Sq} (h : Nou (fun ts => (f ts).bind g) st) : Nou f st := fun ts hs e => h ts hs (by show (f ts).bind g = _; rw [e]; rfl)
theorem Nou.snd {α β : Type} {f : List Tk → Rs α} {g : α → List Tk → Rs β} {st st' : Sq} {x : α} (h : Nou (fun ts => (f ts).bind g) st) (q : Qd f st x st') : Nou (g x) st' := by
  obtain ⟨rfl, q⟩ := q
  match st with
  | .inl ea => intro ts hs; cases hs
  | .inr t0 =>
    intro ts hs e
    cases hf : f t0 using Rs.on with
    | out => exact h t0 rfl (by show (f t0).bind g = _; rw [hf]; rfl)
    | bad e2 a => simp [onw, hf, stp] at hs
    | ok y t =>
      have e1 := q t0 y t rfl hf
      subst e1
      have e2 : t = ts := by simpa [onw, hf, stp] using hs
      subst e2
      exact h t0 rfl (by show (f t0).bind g = _; rw [hf]; exact e)
theorem Qd.bind {α β : Type} {f : List Tk → Rs α} {g : α → List Tk → Rs β} {st st1 st' : Sq} {x : α} {X : β} (p : Qd f st x st1) (q : Qd (g x) st1 X st') : Qd (fun ts => (f ts).bind g) st X st' := by
  obtain ⟨rfl, p⟩ := p
  obtain ⟨rfl, q⟩ := q
  match st with
  | .inl ea => exact ⟨rfl, fun ts y t hs => by cases hs⟩
  | .inr t0 =>
    cases hf : f t0 using Rs.on with
    | out =>
      refine ⟨by simp [onw, hf, stp, Rs.bind], fun ts y t hs hb => ?_⟩
      cases hs
      have hb : (f t0).bind g = _ := hb
      rw [hf] at hb; cases hb
    | bad e a =>
      refine ⟨by simp [onw, hf, stp, Rs.bind], fun ts y t hs hb => ?_⟩
      cases hs
      have hb : (f t0).bind g = _ := hb
      rw [hf] at hb; cases hb
    | ok y t =>
      have e1 := p t0 y t rfl hf
      subst e1
      refine ⟨by simp [onw, hf, stp, Rs.bind], fun ts z t2 hs hb => ?_⟩
      cases hs
      have hb : (f t0).bind g = _ := hb
      rw [hf] at hb
      exact q t z t2 (by simp [onw, hf, stp]) hb
theorem Qd.ret {α : Type} (X : α) (st : Sq) : Qd (fun t => .ok X t) st X st := by
  match st with
  | .inl ea => exact ⟨rfl, fun ts y t hs => by cases hs⟩
  | .inr t0 => exact ⟨rfl, fun ts y t hs hb => (Rs.ok_inj hb).1⟩
theorem Qd.any {α : Type} [Inhabited α] (f : List Tk → Rs α) (st : Sq) : ∃ X, Qd f st X (onw f st) := by
  match st with
  | .inl ea => exact ⟨default, rfl, fun ts y t hs => by cases hs⟩
  | .inr t0 =>
    cases hf : f t0 using Rs.on with
    | out => exact ⟨default, rfl, fun ts y t hs hb => by cases hs; rw [hf] at hb; cases hb⟩
    | bad e a => exact ⟨default, rfl, fun ts y t hs hb => by cases hs; rw [hf] at hb; cases hb⟩
    | ok y t => exact ⟨y, rfl, fun ts z t2 hs hb => by cases hs; rw [hf] at hb; exact (Rs.ok_inj hb).1⟩
theorem Qd.congr {α : Type} {f g : List Tk → Rs α} {st st' : Sq} {X : α} (h : Qd f st X st') (e : ∀ ts, st = .inr ts → f ts = g ts) : Qd g st X st' := by
  obtain ⟨rfl, h⟩ := h
  match st with
  | .inl ea => exact ⟨rfl, fun ts y t hs => by cases hs⟩
  | .inr t0 => exact ⟨by simp only [onw]; rw [e t0 rfl], fun ts y t hs hb => by rw [← e ts hs] at hb; exact h ts y t hs hb⟩
theorem Nou.congr {α : Type} {f g : List Tk → Rs α} {st : Sq} (h : Nou f st) (e : ∀ ts, st = .inr ts → f ts = g ts) : Nou g st := fun ts hs => by rw [← e ts hs]; exact h ts hs
/-- What a call that reads a tree answers and leaves. -/
def PostQ (rb : Nat) (all : List Tk) (o q : Nat) (w : World) (st : Sq) (f : List Tk → Rs Ex) (e : Ending) (w' : World) : Prop :=
  ∃ X ao cap st', e = .returned (exV X ao cap) ∧ Sl w' (Nw w.heap.size) X.kids ao ∧ QS w' rb all o q st' ∧ Keep rb w w' ∧ Qd f st X st'
/-- The document's reader of rows does as a plain one. -/
def RecQ (rec : Rdr) : Prop :=
  ∀ (w : World) (rb : Nat) (all : List Tk) (row o q : Nat) (st : Sq), (∀ x, x ∈ all → TokI x) → 1 ≤ row → row ≤ 7 → QS w rb all o q st → Nou (rec row o q) st → Calls Tryz.prog 21 #[.pointer (some ⟨rb, 0, none⟩), .int .i64 (row : Nat)] w (PostQ rb all o q w st (rec row o q))
theorem QS.alloc {w : World} {rb o q : Nat} {all : List Tk} {st : Sq} (h : QS w rb all o q st) (ob : Obj) : QS (w.alloc ob) rb all o q st := h.below ((Below.refl _ w).alloc (Nat.le_refl _) ob)
theorem Rq.setP {w : World} {rb i : Nat} {o q : Int} {er pl : Nat} {all : List Tk} (h : Rq w rb i o q er pl all) (p : Addr) (v : Value) (hp : rb < p.block) : Rq (w.setCell p v) rb i o q er pl all := by
  obtain ⟨g, cap, h1, h2, h4, h5⟩ := h
  exact ⟨g, cap, (heap_setCell_other w p rb v (by omega)).trans h1, h2, fun j u hu => (World.cell?_of_block (a := ⟨g, j, none⟩) (heap_setCell_other w p g v (by omega))).trans (h4 j u hu), h5⟩
theorem QS.setP {w : World} {rb o q : Nat} {all : List Tk} {st : Sq} (h : QS w rb all o q st) (p : Addr) (v : Value) (hp : rb < p.block) : QS (w.setCell p v) rb all o q st := by
  match st, h with
  | .inl (er, a), ⟨i, o', q', h1, h2⟩ => exact ⟨i, o', q', h1.setP p v hp, h2⟩
  | .inr ts, ⟨i, pl, h1, h2⟩ => exact ⟨i, pl, h1.setP p v hp, h2⟩
theorem QS.set5 {w : World} {rb o q : Nat} {all : List Tk} {st : Sq} (h : QS w rb all o q st) {b : Nat} (hb : rb < b) (b0 b1 b2 b3 b4 : Value) : QS (((((w.setCell ⟨b, 0, none⟩ b0).setCell ⟨b, 1, none⟩ b1).setCell ⟨b, 2, none⟩ b2).setCell ⟨b, 3, none⟩ b3).setCell ⟨b, 4, none⟩ b4) rb all o q st := ((((h.setP ⟨b, 0, none⟩ b0 hb).setP ⟨b, 1, none⟩ b1 hb).setP ⟨b, 2, none⟩ b2 hb).setP ⟨b, 3, none⟩ b3 hb).setP ⟨b, 4, none⟩ b4 hb
/-- An opening that comes next is taken. -/
theorem opens_s {w : World} {rb o q : Nat} {all : List Tk} {x : Tk} {r : List Tk} (s : List UInt8) (hs : s ≠ []) (hx : x.t = s) (h : QS w rb all o q (.inr (x :: r))) :
    Calls Tryz.prog 72 #[.pointer (some ⟨rb, 0, none⟩)] w fun e w' => e = .returned (.tuple #[]) ∧ QS w' rb all (o + 1) q (onw (enterT s o) (.inr (x :: r))) ∧ Keep rb w w' := by
  by_cases h64 : o = 64
  · subst h64
    have e1 : onw (enterT s 64) (.inr (x :: r)) = .inl (121, x.a) := by simp [onw, enterT, hx, stp]
    rw [e1]
    exact open_no h
  · have e1 : onw (enterT s o) (.inr (x :: r)) = .inr r := by simp [onw, enterT, hx, stp, h64]
    rw [e1]
    exact open_ok (by have := h.le.1; omega) (by rw [hx]; exact hs) h
theorem enter_q {o : Nat} {x : Tk} {r : List Tk} (s : List UInt8) : Qd (enterT s o) (.inr (x :: r)) x.a (onw (enterT s o) (.inr (x :: r))) := by
  refine ⟨rfl, fun ts y t hs hb => ?_⟩
  cases hs
  unfold enterT at hb
  by_cases hx : x.t = s
  · by_cases h64 : o = 64
    · simp [hx, h64] at hb
    · simp [hx, h64] at hb; exact hb.1
  · simp [hx] at hb
/-- What is left to be read, and what it makes of the whole. -/
def Ctx {β : Type} (F : List Tk → Rs β) (st0 : Sq) (G : List Tk → Rs β) (st : Sq) : Prop := Nou G st ∧ ∀ X st', Qd G st X st' → Qd F st0 X st'
theorem Ctx.start {β : Type} {F : List Tk → Rs β} {st : Sq} (h : Nou F st) : Ctx F st F st := ⟨h, fun _ _ q => q⟩
theorem Ctx.nou {α β : Type} {F : List Tk → Rs β} {st0 st : Sq} {f : List Tk → Rs α} {g : α → List Tk → Rs β} (h : Ctx F st0 (fun ts => (f ts).bind g) st) : Nou f st := h.1.fst
theorem Ctx.step {α β : Type} {F : List Tk → Rs β} {st0 st st1 : Sq} {f : List Tk → Rs α} {g : α → List Tk → Rs β} {x : α} (h : Ctx F st0 (fun ts => (f ts).bind g) st) (q : Qd f st x st1) : Ctx F st0 (g x) st1 := ⟨h.1.snd q, fun X st' q2 => h.2 X st' (q.bind q2)⟩
theorem Ctx.fin {β : Type} {F : List Tk → Rs β} {st0 st : Sq} {X : β} (h : Ctx F st0 (fun t => .ok X t) st) : Qd F st0 X st := h.2 X st (Qd.ret X st)
/-- What a call that reads no tree leaves. -/
def PostV (rb : Nat) (all : List Tk) (o q : Nat) (w : World) (st : Sq) (f : List Tk → Rs Nat) (e : Ending) (w' : World) : Prop :=
  ∃ X st', e = .returned (.tuple #[]) ∧ QS w' rb all o q st' ∧ Keep rb w w' ∧ Qd f st X st'
theorem postV {rb : Nat} {all : List Tk} {o q : Nat} {w : World} {st : Sq} (f : List Tk → Rs Nat) {e : Ending} {w' : World} (h : e = .returned (.tuple #[]) ∧ QS w' rb all o q (onw f st) ∧ Keep rb w w') : PostV rb all o q w st f e w' := by
  obtain ⟨X, hX⟩ := Qd.any f st
  exact ⟨X, _, h.1, h.2.1, h.2.2, hX⟩
theorem take_v {w : World} {rb o q : Nat} {all : List Tk} {st : Sq} (TI : ∀ x, x ∈ all → TokI x) (s : List UInt8) (hs : s ≠ [] ∧ nameB s = false) (h : QS w rb all o q st) :
    Calls Tryz.prog 133 #[.pointer (some ⟨rb, 0, none⟩), stv s] w (PostV rb all o q w st (passT s)) := (take_s TI s hs.1 hs.2 h).mono fun _ _ hh => postV _ hh
theorem close_v {w : World} {rb o q : Nat} {all : List Tk} {st : Sq} (TI : ∀ x, x ∈ all → TokI x) (s : List UInt8) (hs : s ≠ [] ∧ nameB s = false) (h : QS w rb all (o + 1) q st) :
    Calls Tryz.prog 110 #[.pointer (some ⟨rb, 0, none⟩), stv s] w (PostV rb all o q w st (passT s)) := (close_s TI s hs.1 hs.2 h).mono fun _ _ hh => postV _ hh
theorem bracket_v {w : World} {rb o q : Nat} {all : List Tk} {st : Sq} (TI : ∀ x, x ∈ all → TokI x) (s : List UInt8) (hs : s ≠ [] ∧ nameB s = false) (h : QS w rb all o q st) :
    Calls Tryz.prog 109 #[.pointer (some ⟨rb, 0, none⟩), stv s] w (PostV rb all (o + 1) q w st (enterT s o)) := (bracket_s TI s hs.1 hs.2 h).mono fun _ _ hh => by
  obtain ⟨X, hX⟩ := Qd.any (enterT s o) st
  exact ⟨X, _, hh.1, hh.2.1, hh.2.2, hX⟩
end Go.Proofs.YtafnlhnenmpfoaaGreatDoor
namespace Go.Proofs.YtafnlhnenmpfoaaGreatDoor
open Go.ChangeShapes Go.WideShapes Go.ChangeAt Go.RowKit
set_option linter.unusedVariables false
set_option linter.unusedSimpArgs false

set_option maxRecDepth 100000 in
set_option maxHeartbeats 2000000 in
theorem choice_q {rec : Rdr} (R : RecQ rec) {w : World} {rb o q : Nat} {all : List Tk} {x : Tk} {r : List Tk} (TI : ∀ x, x ∈ all → TokI x) (hx : x.t = [105, 102]) (h : QS w rb all o q (.inr (x :: r))) (hn : Nou (choiceR rec o q) (.inr (x :: r))) :
    Calls Tryz.prog 111 #[.pointer (some ⟨rb, 0, none⟩), .int .i64 (x.a : Nat)] w (PostQ rb all o q w (.inr (x :: r)) (choiceR rec o q)) := by
  have C0 := Ctx.start hn
  have q0 := enter_q (o := o) (x := x) (r := r) [105, 102]
  have hrb := h.lt
  have K0 : Keep rb w (w.alloc exZ) := (Keep.refl rb w).alloc _
  have Z0 : (w.alloc exZ).heap[w.heap.size]? = some exZ := heap_alloc_new w _
  have h0 := h.alloc exZ
  have c1 := opens_s [105, 102] (by decide) hx h0
  have C1 := C0.step q0
  generalize onw (enterT [105, 102] o) (.inr (x :: r)) = st1 at *
  clear C0 q0 hn
  go_enter Tryz.func111, Tryz.ntmps111
  go_wp2_with fail
  refine c1.mono ?_
  rintro e w1 ⟨rfl, h1, k1⟩
  clear c1
  have Z1 := k1.blk Z0 (by have := K0.size; omega)
  have K1 := K0.trans k1
  clear K0 Z0
  have c2 := R _ rb all 1 (o + 1) (q) st1 TI (by omega) (by omega) h1 C1.nou
  go_wp2_with fail
  refine c2.mono ?_
  rintro e w2 ⟨x2, ao2, cap2, st2, rfl, S2, h2, k2, Q2⟩
  have C2 := C1.step Q2
  clear c2 Q2 C1
  have S2a := S2.low (show (w.heap.size + 1) ≤ _ from (by have := lt_of_block Z1; omega))
  clear S2
  have Z2 := k2.blk Z1 (by have := K1.size; omega)
  have K2 := K1.trans k2
  clear K1 Z1
  have h2a := h2.alloc (.cells #[.int .i64 x2.k, .int .i64 x2.n, stv x2.nm, .slice ao2 x2.kids.len cap2, .int .i64 x2.a] 25)
  have K2a := K2.alloc (.cells #[.int .i64 x2.k, .int .i64 x2.n, stv x2.nm, .slice ao2 x2.kids.len cap2, .int .i64 x2.a] 25)
  have Z2a := (Below.heap_alloc w2 (.cells #[.int .i64 x2.k, .int .i64 x2.n, stv x2.nm, .slice ao2 x2.kids.len cap2, .int .i64 x2.a] 25) _ (lt_of_block Z2)).trans Z2
  have Y2_a : (World.alloc w2 (.cells #[.int .i64 x2.k, .int .i64 x2.n, stv x2.nm, .slice ao2 x2.kids.len cap2, .int .i64 x2.a] 25)).heap[w2.heap.size]? = some (.cells #[.int .i64 x2.k, .int .i64 x2.n, stv x2.nm, .slice ao2 x2.kids.len cap2, .int .i64 x2.a] 25) := heap_alloc_new w2 _
  have S2a_2b := S2a.allocN (.cells #[.int .i64 x2.k, .int .i64 x2.n, stv x2.nm, .slice ao2 x2.kids.len cap2, .int .i64 x2.a] 25)
  have hb2 : rb < w2.heap.size := by have := K2.size; omega
  clear h2 K2 Z2 S2a
  rw [exV_out]
  have c3 := take_v TI [116, 104, 101, 110] ⟨by decide, by decide⟩ h2a
  go_wp2_with fail
  refine c3.mono ?_
  rintro e w3 ⟨x3, st3, rfl, h3, k3, Q3⟩
  have C3 := C2.step Q3
  clear c3 Q3 C2
  have Z3 := k3.blk Z2a (by have := K2a.size; omega)
  have K3 := K2a.trans k3
  have Y2_3 := k3.blk Y2_a (by omega)
  have S2a_3 := S2a_2b.keepN k3 (by omega)
  clear K2a Z2a Y2_a S2a_2b
  have c4 := R _ rb all 1 (o + 1) (q) st3 TI (by omega) (by omega) h3 C3.nou
  go_wp2_with fail
  refine c4.mono ?_
  rintro e w4 ⟨x4, ao4, cap4, st4, rfl, S4, h4, k4, Q4⟩
  have C4 := C3.step Q4
  clear c4 Q4 C3
  have S4a := S4.low (show (w.heap.size + 1) ≤ _ from (by have := lt_of_block Z3; omega))
  clear S4
  have Z4 := k4.blk Z3 (by have := K3.size; omega)
  have K4 := K3.trans k4
  have Y2_4 := k4.blk Y2_3 (by omega)
  have S2a_4 := S2a_3.keepN k4 (by omega)
  clear K3 Z3 Y2_3 S2a_3
  have h4a := h4.alloc (.cells #[.int .i64 x4.k, .int .i64 x4.n, stv x4.nm, .slice ao4 x4.kids.len cap4, .int .i64 x4.a] 25)
  have K4a := K4.alloc (.cells #[.int .i64 x4.k, .int .i64 x4.n, stv x4.nm, .slice ao4 x4.kids.len cap4, .int .i64 x4.a] 25)
  have Z4a := (Below.heap_alloc w4 (.cells #[.int .i64 x4.k, .int .i64 x4.n, stv x4.nm, .slice ao4 x4.kids.len cap4, .int .i64 x4.a] 25) _ (lt_of_block Z4)).trans Z4
  have Y2_4a := (Below.heap_alloc w4 (.cells #[.int .i64 x4.k, .int .i64 x4.n, stv x4.nm, .slice ao4 x4.kids.len cap4, .int .i64 x4.a] 25) _ (lt_of_block Y2_4)).trans Y2_4
  have Y4_a : (World.alloc w4 (.cells #[.int .i64 x4.k, .int .i64 x4.n, stv x4.nm, .slice ao4 x4.kids.len cap4, .int .i64 x4.a] 25)).heap[w4.heap.size]? = some (.cells #[.int .i64 x4.k, .int .i64 x4.n, stv x4.nm, .slice ao4 x4.kids.len cap4, .int .i64 x4.a] 25) := heap_alloc_new w4 _
  have S2a_4b := S2a_4.allocN (.cells #[.int .i64 x4.k, .int .i64 x4.n, stv x4.nm, .slice ao4 x4.kids.len cap4, .int .i64 x4.a] 25)
  have S4a_4b := S4a.allocN (.cells #[.int .i64 x4.k, .int .i64 x4.n, stv x4.nm, .slice ao4 x4.kids.len cap4, .int .i64 x4.a] 25)
  have hb4 : rb < w4.heap.size := by have := K4.size; omega
  clear h4 K4 Z4 Y2_4 S2a_4 S4a
  rw [exV_out]
  have c5 := take_v TI [101, 108, 115, 101] ⟨by decide, by decide⟩ h4a
  go_wp2_with fail
  refine c5.mono ?_
  rintro e w5 ⟨x5, st5, rfl, h5, k5, Q5⟩
  have C5 := C4.step Q5
  clear c5 Q5 C4
  have Z5 := k5.blk Z4a (by have := K4a.size; omega)
  have K5 := K4a.trans k5
  have Y2_5 := k5.blk Y2_4a (by omega)
  have Y4_5 := k5.blk Y4_a (by omega)
  have S2a_5 := S2a_4b.keepN k5 (by omega)
  have S4a_5 := S4a_4b.keepN k5 (by omega)
  clear K4a Z4a Y2_4a Y4_a S2a_4b S4a_4b
  have c6 := R _ rb all 1 (o + 1) (q) st5 TI (by omega) (by omega) h5 C5.nou
  go_wp2_with fail
  refine c6.mono ?_
  rintro e w6 ⟨x6, ao6, cap6, st6, rfl, S6, h6, k6, Q6⟩
  have C6 := C5.step Q6
  clear c6 Q6 C5
  have S6a := S6.low (show (w.heap.size + 1) ≤ _ from (by have := lt_of_block Z5; omega))
  clear S6
  have Z6 := k6.blk Z5 (by have := K5.size; omega)
  have K6 := K5.trans k6
  have Y2_6 := k6.blk Y2_5 (by omega)
  have Y4_6 := k6.blk Y4_5 (by omega)
  have S2a_6 := S2a_5.keepN k6 (by omega)
  have S4a_6 := S4a_5.keepN k6 (by omega)
  clear K5 Z5 Y2_5 Y4_5 S2a_5 S4a_5
  have h6a := h6.alloc (.cells #[.int .i64 x6.k, .int .i64 x6.n, stv x6.nm, .slice ao6 x6.kids.len cap6, .int .i64 x6.a] 25)
  have K6a := K6.alloc (.cells #[.int .i64 x6.k, .int .i64 x6.n, stv x6.nm, .slice ao6 x6.kids.len cap6, .int .i64 x6.a] 25)
  have Z6a := (Below.heap_alloc w6 (.cells #[.int .i64 x6.k, .int .i64 x6.n, stv x6.nm, .slice ao6 x6.kids.len cap6, .int .i64 x6.a] 25) _ (lt_of_block Z6)).trans Z6
  have Y2_6a := (Below.heap_alloc w6 (.cells #[.int .i64 x6.k, .int .i64 x6.n, stv x6.nm, .slice ao6 x6.kids.len cap6, .int .i64 x6.a] 25) _ (lt_of_block Y2_6)).trans Y2_6
  have Y4_6a := (Below.heap_alloc w6 (.cells #[.int .i64 x6.k, .int .i64 x6.n, stv x6.nm, .slice ao6 x6.kids.len cap6, .int .i64 x6.a] 25) _ (lt_of_block Y4_6)).trans Y4_6
  have Y6_a : (World.alloc w6 (.cells #[.int .i64 x6.k, .int .i64 x6.n, stv x6.nm, .slice ao6 x6.kids.len cap6, .int .i64 x6.a] 25)).heap[w6.heap.size]? = some (.cells #[.int .i64 x6.k, .int .i64 x6.n, stv x6.nm, .slice ao6 x6.kids.len cap6, .int .i64 x6.a] 25) := heap_alloc_new w6 _
  have S2a_6b := S2a_6.allocN (.cells #[.int .i64 x6.k, .int .i64 x6.n, stv x6.nm, .slice ao6 x6.kids.len cap6, .int .i64 x6.a] 25)
  have S4a_6b := S4a_6.allocN (.cells #[.int .i64 x6.k, .int .i64 x6.n, stv x6.nm, .slice ao6 x6.kids.len cap6, .int .i64 x6.a] 25)
  have S6a_6b := S6a.allocN (.cells #[.int .i64 x6.k, .int .i64 x6.n, stv x6.nm, .slice ao6 x6.kids.len cap6, .int .i64 x6.a] 25)
  have hb6 : rb < w6.heap.size := by have := K6.size; omega
  clear h6 K6 Z6 Y2_6 Y4_6 S2a_6 S4a_6 S6a
  rw [exV_out]
  go_upto_region 7 with fail
  generalize (World.alloc w6 (.cells #[.int .i64 x6.k, .int .i64 x6.n, stv x6.nm, .slice ao6 x6.kids.len cap6, .int .i64 x6.a] 25)) = v7 at *
  obtain ⟨o8, d8, df8, h8⟩ := h6a.down
  have k8 : Keep rb v7 _ := Keep.at v7 2 (.int .i64 (wrap64 (o8 - 1)))
  clear h6a
  go_upto_region 8 with fail
  generalize v7.setCell ⟨rb, 2, none⟩ (.int .i64 (wrap64 (o8 - 1))) = w8 at *
  clear d8 df8
  have Z8 := k8.blk Z6a (by have := K6a.size; omega)
  have K8 := K6a.trans k8
  have Y2_8 := k8.blk Y2_6a (by omega)
  have Y4_8 := k8.blk Y4_6a (by omega)
  have Y6_8 := k8.blk Y6_a (by omega)
  have S2a_8 := S2a_6b.keepN k8 (by omega)
  have S4a_8 := S4a_6b.keepN k8 (by omega)
  have S6a_8 := S6a_6b.keepN k8 (by omega)
  clear K6a Z6a Y2_6a Y4_6a Y6_a S2a_6b S4a_6b S6a_6b
  have NS : Sl (World.alloc w8 (.cells [.int .i64 x2.k, .int .i64 x2.n, stv x2.nm, .slice ao2 x2.kids.len cap2, .int .i64 x2.a, .int .i64 x4.k, .int .i64 x4.n, stv x4.nm, .slice ao4 x4.kids.len cap4, .int .i64 x4.a, .int .i64 x6.k, .int .i64 x6.n, stv x6.nm, .slice ao6 x6.kids.len cap6, .int .i64 x6.a].toArray 25)) (Nw (w.heap.size + 1)) (((one x2).snoc x4).snoc x6) (some ⟨w8.heap.size, 0, none⟩) := Sl.fresh _ 25 (Fc.app (Fc.app (Fc.one (e := x2) cap2 S2a_8) (Fc.one (e := x4) cap4 S4a_8)) (Fc.one (e := x6) cap6 S6a_8)) (by have := lt_of_block Z8; omega)
  have KF := K8.alloc (.cells [.int .i64 x2.k, .int .i64 x2.n, stv x2.nm, .slice ao2 x2.kids.len cap2, .int .i64 x2.a, .int .i64 x4.k, .int .i64 x4.n, stv x4.nm, .slice ao4 x4.kids.len cap4, .int .i64 x4.a, .int .i64 x6.k, .int .i64 x6.n, stv x6.nm, .slice ao6 x6.kids.len cap6, .int .i64 x6.a].toArray 25)
  have RF := h8.alloc (.cells [.int .i64 x2.k, .int .i64 x2.n, stv x2.nm, .slice ao2 x2.kids.len cap2, .int .i64 x2.a, .int .i64 x4.k, .int .i64 x4.n, stv x4.nm, .slice ao4 x4.kids.len cap4, .int .i64 x4.a, .int .i64 x6.k, .int .i64 x6.n, stv x6.nm, .slice ao6 x6.kids.len cap6, .int .i64 x6.a].toArray 25)
  have ZF := (Below.heap_alloc w8 (.cells [.int .i64 x2.k, .int .i64 x2.n, stv x2.nm, .slice ao2 x2.kids.len cap2, .int .i64 x2.a, .int .i64 x4.k, .int .i64 x4.n, stv x4.nm, .slice ao4 x4.kids.len cap4, .int .i64 x4.a, .int .i64 x6.k, .int .i64 x6.n, stv x6.nm, .slice ao6 x6.kids.len cap6, .int .i64 x6.a].toArray 25) _ (lt_of_block Z8)).trans Z8
  have KE := KF.set5 (b := w.heap.size) (by omega) (.int .i64 19) (.int .i64 0) (stv []) (.slice (some ⟨w8.heap.size, 0, none⟩) 3 3) (.int .i64 x.a)
  have RE := RF.set5 (b := w.heap.size) (by omega) (.int .i64 19) (.int .i64 0) (stv []) (.slice (some ⟨w8.heap.size, 0, none⟩) 3 3) (.int .i64 x.a)
  have ZE := set5k (.int .i64 19) (.int .i64 0) (stv []) (.slice (some ⟨w8.heap.size, 0, none⟩) 3 3) (.int .i64 x.a) ZF
  have SE : Sl _ (Nw w.heap.size) _ _ := (NS.set5 (b := w.heap.size) (by omega) (.int .i64 19) (.int .i64 0) (stv []) (.slice (some ⟨w8.heap.size, 0, none⟩) 3 3) (.int .i64 x.a)).low (by omega)
  obtain ⟨z0, z1, z2, z3, z4, zf⟩ := box5 ZF
  obtain ⟨u0, u1, u2, u3, u4, -⟩ := box5 ZE
  obtain ⟨y00, y01, y02, y03, y04, y0f⟩ := box5 Y2_8
  obtain ⟨y10, y11, y12, y13, y14, y1f⟩ := box5 Y4_8
  obtain ⟨y20, y21, y22, y23, y24, y2f⟩ := box5 Y6_8
  have FIN := C6.fin
  clear C6 ZE ZF KF RF NS K8 Z8 h8 Y2_8 Y4_8 Y6_8 S2a_8 S4a_8 S6a_8
  go_wp2
  exact bodyPost_ret (v := exV ⟨19, 0, [], x.a, (((one x2).snoc x4).snoc x6)⟩ (some ⟨w8.heap.size, 0, none⟩) 3) (by simp [results, Tryz.results111, go_sem, u0, u1, u2, u3, u4, exV]; rfl) rfl ⟨_, _, _, _, rfl, SE, RE, KE, FIN⟩
end Go.Proofs.YtafnlhnenmpfoaaGreatDoor
