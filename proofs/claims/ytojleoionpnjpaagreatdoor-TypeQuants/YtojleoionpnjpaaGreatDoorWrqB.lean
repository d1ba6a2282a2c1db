/- The document's own writer in memory: a text is put, something is opened or closed. -/
import Derived.Test.YtojleoionpnjpaaGreatDoorWrqA
namespace Go.Proofs.YtojleoionpnjpaaGreatDoor
open Go.ChangeShapes Go.WideShapes Go.ChangeAt Go.RowKit
set_option linter.unusedVariables false
set_option linter.unusedSimpArgs false

/-- The writer: its text, what is open, is all right? -/
def WR (w : World) (o : Nat → Nat) (wb : Nat) (t : List UInt8) (oo qq : Int) (ok : Bool) : Prop :=
  ∃ v, Blk w o 1 wb (.cells #[v, .int .i64 oo, .int .i64 qq, .bool ok] 89 (0, 0)) ∧ Row w o 2 5 1 v t.length (byL t)
/-- The same, where a state that is gone does not tell what it was. -/
def WQ (w : World) (o : Nat → Nat) (wb : Nat) : Ow → Prop
  | some s => WR w o wb s.t (s.o : Nat) (s.q : Nat) true ∧ s.t.length ≤ 2000 ∧ s.o ≤ 64 ∧ s.q ≤ 4
  | none => ∃ t oo qq, WR w o wb t oo qq false ∧ t.length ≤ 2000
theorem WR.lt {w : World} {o : Nat → Nat} {wb : Nat} {t : List UInt8} {oo qq : Int} {ok : Bool} (h : WR w o wb t oo qq ok) : wb < w.heap.size := by
  obtain ⟨v, h1, _⟩ := h
  exact h1.lt
theorem WR.step {I : Nat → Prop} {w w' : World} {o o' : Nat → Nat} {wb : Nat} {t : List UInt8} {oo qq : Int} {ok : Bool} (h : WR w o wb t oo qq ok) (s : Step I w o w' o') (h1 : ¬ I 1) (h2 : ¬ I 2) : WR w' o' wb t oo qq ok := by
  obtain ⟨v, hb, hr⟩ := h
  exact ⟨v, hb.step s h1, hr.step s h2⟩
theorem WQ.step {I : Nat → Prop} {w w' : World} {o o' : Nat → Nat} {wb : Nat} {st : Ow} (h : WQ w o wb st) (s : Step I w o w' o') (h1 : ¬ I 1) (h2 : ¬ I 2) : WQ w' o' wb st := by
  match st, h with
  | some x, h => exact ⟨h.1.step s h1 h2, h.2⟩
  | none, ⟨t, oo, qq, h, hl⟩ => exact ⟨t, oo, qq, h.step s h1 h2, hl⟩
theorem WQ.raw {w : World} {o : Nat → Nat} {wb : Nat} {st : Ow} (h : WQ w o wb st) : ∃ t oo qq ok, WR w o wb t oo qq ok ∧ t.length ≤ 2000 := by
  match st, h with
  | some x, h => exact ⟨_, _, _, _, h.1, h.2.1⟩
  | none, ⟨t, oo, qq, h, hl⟩ => exact ⟨t, oo, qq, _, h, hl⟩
theorem WQ.lt {w : World} {o : Nat → Nat} {wb : Nat} {st : Ow} (h : WQ w o wb st) : wb < w.heap.size := by
  obtain ⟨t, oo, qq, ok, h, _⟩ := h.raw
  exact h.lt
/-- The writer's cells. -/
theorem WR.cells {w : World} {o : Nat → Nat} {wb : Nat} {t : List UInt8} {oo qq : Int} {ok : Bool} (h : WR w o wb t oo qq ok) : w.cell? ⟨wb, 1, none⟩ = some (.int .i64 oo) ∧ w.cell? ⟨wb, 2, none⟩ = some (.int .i64 qq) ∧ w.cell? ⟨wb, 3, none⟩ = some (.bool ok) ∧ ∀ j, w.frozen? ⟨wb, j, none⟩ = false := by
  obtain ⟨v, hb, hr⟩ := h
  obtain ⟨c0, c1, c2, c3, cf⟩ := Blk.cells4 hb
  exact ⟨c1, c2, c3, cf⟩
theorem WR.set {w : World} {o : Nat → Nat} {wb : Nat} {t : List UInt8} {oo qq : Int} {ok : Bool} (h : WR w o wb t oo qq ok) :
    (∀ oo', WR (w.setCell ⟨wb, 1, none⟩ (.int .i64 oo')) o wb t oo' qq ok) ∧ (∀ qq', WR (w.setCell ⟨wb, 2, none⟩ (.int .i64 qq')) o wb t oo qq' ok) ∧ (∀ ok', WR (w.setCell ⟨wb, 3, none⟩ (.bool ok')) o wb t oo qq ok') := by
  obtain ⟨v, hb, hr⟩ := h
  have s : ∀ (j : Nat) (u : Value), Step (fun k => k = 1) w o (w.setCell ⟨wb, j, none⟩ u) o := fun j u => setStep _ w o ⟨wb, j, none⟩ u hb.2
  exact ⟨fun oo' => ⟨v, hb.set 1 _, hr.step (s 1 _) (by decide)⟩, fun qq' => ⟨v, hb.set 2 _, hr.step (s 2 _) (by decide)⟩, fun ok' => ⟨v, hb.set 3 _, hr.step (s 3 _) (by decide)⟩⟩
theorem WR.setS {w : World} {o : Nat → Nat} {wb : Nat} {t : List UInt8} {oo qq : Int} {ok : Bool} (h : WR w o wb t oo qq ok) (j : Nat) (u : Value) : Step I12 w o (w.setCell ⟨wb, j, none⟩ u) o := by
  obtain ⟨v, hb, hr⟩ := h
  exact setStep _ w o ⟨wb, j, none⟩ u (.inl hb.2)
/-- What a call that puts a text leaves. -/
def PutP (w : World) (o : Nat → Nat) (wb : Nat) (t s : List UInt8) (oo qq : Int) (ok : Bool) (e : Ending) (w' : World) : Prop :=
  e = .returned (.tuple #[]) ∧ ∃ o', Step I12 w o w' o' ∧ ((2000 < t.length + s.length ∧ WR w' o' wb t oo qq false) ∨ (t.length + s.length ≤ 2000 ∧ WR w' o' wb (t ++ s) oo qq ok))
set_option maxRecDepth 100000 in
theorem puts_raw {w : World} {o : Nat → Nat} {wb : Nat} {t : List UInt8} {oo qq : Int} {ok : Bool} (s : List UInt8) (h : WR w o wb t oo qq ok) (ht : t.length ≤ 2000) (hs : s.length ≤ 1000000) :
    Calls Tryz.prog 76 #[.pointer (some ⟨wb, 0, none⟩), stv s] w (PutP w o wb t s oo qq ok) := by
  have hset := h.set.2.2 false
  have hst := h.setS 3 (.bool false)
  obtain ⟨v, hb, hr⟩ := h
  obtain ⟨c0, c1, c2, c3, cf⟩ := Blk.cells4 hb
  obtain ⟨ao, cap, rfl⟩ := hr.form
  have hsz := size_mk s
  by_cases hl : 2000 < t.length + s.length
  · have hlI : (2000 : Int) < (t.length : Int) + (s.length : Int) := by omega
    have FIN : Hid (∀ wx, wx = w.setCell ⟨wb, 3, none⟩ (.bool false) → PutP w o wb t s oo qq ok (.returned (.tuple #[])) wx) := fun wx e => by subst e; exact ⟨rfl, o, hst, .inl ⟨hl, hset⟩⟩
    clear hset hst hb hr
    go_enter Tryz.func76, Tryz.ntmps76
    go_wp2
    (try simp only [Exit.inBlock, Exit.then])
    refine bodyPost_ret (results_none rfl _ _ _) rfl ?_
    exact FIN.out _ rfl
  · have hlI : ¬ (2000 : Int) < (t.length : Int) + (s.length : Int) := by omega
    obtain ⟨ii, hii, hz0, hz1, hz2⟩ := info_parts infoU8
    clear hset hst
    go_enter Tryz.func76, Tryz.ntmps76
    go_wp2_with (first | (at_builtin; refine wpList_append_str rfl (.tmp 20) (.tmp 21) 87 9 rfl 5 ii Tryz.underlying87 Tryz.underlying9 hii hz0 hz1 hz2 o 2 _ t.length (byL t) rfl hr ⟨s.toArray⟩ rfl ?c1 ?c2 ?_) | go_in)
    case c1 => unfold maxLen; omega
    case c2 => omega
    intro v' w' o' hr' hst
    obtain ⟨ao', cap', rfl⟩ := hr'.form
    have hb' := hb.step hst (by decide)
    obtain ⟨d0, d1, d2, d3, df⟩ := Blk.cells4 hb'
    have hb2 := hb'.set 0 (.slice ao' (t.length + s.length) cap')
    have s2 : Step I12 w' o' (w'.setCell ⟨wb, 0, none⟩ (.slice ao' (t.length + s.length) cap')) o' := setStep I12 w' o' ⟨wb, 0, none⟩ (.slice ao' (t.length + s.length) cap') (.inl hb'.2)
    have s3 := (hst.mono (fun k hk => (.inr hk : I12 k))).trans s2
    have s4 : Step (fun k => k = 1) w' o' (w'.setCell ⟨wb, 0, none⟩ (.slice ao' (t.length + s.length) cap')) o' := setStep _ w' o' ⟨wb, 0, none⟩ (.slice ao' (t.length + s.length) cap') hb'.2
    have hr2 := hr'.step s4 (by decide)
    rw [byL_app] at hr2
    have hr3 : Row (w'.setCell ⟨wb, 0, none⟩ (.slice ao' (t.length + s.length) cap')) o' 2 5 1 (.slice ao' (t.length + s.length) cap') (t ++ s).length (byL (t ++ s)) := by
      rw [List.length_append]
      exact hr2
    have FIN : Hid (∀ wx, wx = w'.setCell ⟨wb, 0, none⟩ (.slice ao' (t.length + s.length) cap') → PutP w o wb t s oo qq ok (.returned (.tuple #[])) wx) := fun wx e => by subst e; exact ⟨rfl, o', s3, .inr ⟨by omega, _, hb2, hr3⟩⟩
    clear hr2 hst s2 s4 hr' hb hr c0 c1 c2 c3 cf hb2 hr3 s3 hb'
    go_wp2
    go_end0
    exact FIN.out _ rfl
/-- What a call of the writer's leaves. -/
def PostO (w : World) (o : Nat → Nat) (wb : Nat) (st : Ow) (e : Ending) (w' : World) : Prop := e = .returned (.tuple #[]) ∧ ∃ o', WQ w' o' wb st ∧ Step I12 w o w' o'
theorem puts_o {w : World} {o : Nat → Nat} {wb : Nat} {st : Ow} (s : List UInt8) (h : WQ w o wb st) (hs : s.length ≤ 1000000) :
    Calls Tryz.prog 76 #[.pointer (some ⟨wb, 0, none⟩), stv s] w (PostO w o wb (putO s st)) := by
  match st, h with
  | some x, h =>
    refine (puts_raw s h.1 h.2.1 hs).mono ?_
    rintro e w' ⟨rfl, o', st', hh⟩
    refine ⟨rfl, o', ?_, st'⟩
    rcases hh with ⟨hl, hw⟩ | ⟨hl, hw⟩
    · rw [show putO s (some x) = none by simp [putO, hl]]
      exact ⟨_, _, _, hw, h.2.1⟩
    · rw [show putO s (some x) = some ⟨x.t ++ s, x.o, x.q⟩ by simp [putO]; omega]
      exact ⟨hw, by simp only [List.length_append]; exact hl, h.2.2⟩
  | none, ⟨t, oo, qq, h, hl⟩ =>
    refine (puts_raw s h hl hs).mono ?_
    rintro e w' ⟨rfl, o', st', hh⟩
    refine ⟨rfl, o', ?_, st'⟩
    rcases hh with ⟨hl2, hw⟩ | ⟨hl2, hw⟩
    · exact ⟨_, _, _, hw, hl⟩
    · exact ⟨_, _, _, hw, by simp only [List.length_append]; exact hl2⟩
/-- An opening is counted; there may be too many. -/
theorem WQ.ent {w : World} {o : Nat → Nat} {wb : Nat} {st : Ow} (h : WQ w o wb st) : ∃ oo : Int, w.cell? ⟨wb, 1, none⟩ = some (.int .i64 oo) ∧ (∀ j, w.frozen? ⟨wb, j, none⟩ = false) ∧ Step I12 w o (w.setCell ⟨wb, 1, none⟩ (.int .i64 (wrap64 (oo + 1)))) o ∧
    ((64 < wrap64 (oo + 1) ∧ WQ ((w.setCell ⟨wb, 1, none⟩ (.int .i64 (wrap64 (oo + 1)))).setCell ⟨wb, 3, none⟩ (.bool false)) o wb (entO st)) ∨ (¬ 64 < wrap64 (oo + 1) ∧ WQ (w.setCell ⟨wb, 1, none⟩ (.int .i64 (wrap64 (oo + 1)))) o wb (entO st))) := by
  match st, h with
  | some x, h =>
    obtain ⟨c1, c2, c3, cf⟩ := h.1.cells
    refine ⟨_, c1, cf, h.1.setS 1 _, ?_⟩
    have e : wrap64 ((x.o : Nat) + 1) = ((x.o + 1 : Nat) : Int) := by have := h.2.2.1; unfold wrap64; omega
    have hw := h.1.set.1 (wrap64 ((x.o : Nat) + 1))
    by_cases hl : 64 < x.o + 1
    · refine .inl ⟨by rw [e]; omega, ?_⟩
      rw [show entO (some x) = none by simp [entO, hl]]
      exact ⟨_, _, _, hw.set.2.2 false, h.2.1⟩
    · refine .inr ⟨by rw [e]; omega, ?_⟩
      rw [show entO (some x) = some ⟨x.t, x.o + 1, x.q⟩ by simp [entO, hl]]
      rw [e] at hw ⊢
      exact ⟨hw, h.2.1, by show x.o + 1 ≤ 64; omega, h.2.2.2⟩
  | none, ⟨t, oo, qq, h, hl⟩ =>
    obtain ⟨c1, c2, c3, cf⟩ := h.cells
    refine ⟨_, c1, cf, h.setS 1 _, ?_⟩
    have hw := h.set.1 (wrap64 (oo + 1))
    by_cases hl2 : 64 < wrap64 (oo + 1)
    · exact .inl ⟨hl2, t, _, _, hw.set.2.2 false, hl⟩
    · exact .inr ⟨hl2, t, _, _, hw, hl⟩
theorem WQ.qen {w : World} {o : Nat → Nat} {wb : Nat} {st : Ow} (h : WQ w o wb st) : ∃ oo : Int, w.cell? ⟨wb, 2, none⟩ = some (.int .i64 oo) ∧ (∀ j, w.frozen? ⟨wb, j, none⟩ = false) ∧ Step I12 w o (w.setCell ⟨wb, 2, none⟩ (.int .i64 (wrap64 (oo + 1)))) o ∧
    ((4 < wrap64 (oo + 1) ∧ WQ ((w.setCell ⟨wb, 2, none⟩ (.int .i64 (wrap64 (oo + 1)))).setCell ⟨wb, 3, none⟩ (.bool false)) o wb (qenO st)) ∨ (¬ 4 < wrap64 (oo + 1) ∧ WQ (w.setCell ⟨wb, 2, none⟩ (.int .i64 (wrap64 (oo + 1)))) o wb (qenO st))) := by
  match st, h with
  | some x, h =>
    obtain ⟨c1, c2, c3, cf⟩ := h.1.cells
    refine ⟨_, c2, cf, h.1.setS 2 _, ?_⟩
    have e : wrap64 ((x.q : Nat) + 1) = ((x.q + 1 : Nat) : Int) := by have := h.2.2.2; unfold wrap64; omega
    have hw := h.1.set.2.1 (wrap64 ((x.q : Nat) + 1))
    by_cases hl : 4 < x.q + 1
    · refine .inl ⟨by rw [e]; omega, ?_⟩
      rw [show qenO (some x) = none by simp [qenO, hl]]
      exact ⟨_, _, _, hw.set.2.2 false, h.2.1⟩
    · refine .inr ⟨by rw [e]; omega, ?_⟩
      rw [show qenO (some x) = some ⟨x.t, x.o, x.q + 1⟩ by simp [qenO, hl]]
      rw [e] at hw ⊢
      exact ⟨hw, h.2.1, h.2.2.1, by show x.q + 1 ≤ 4; omega⟩
  | none, ⟨t, oo, qq, h, hl⟩ =>
    obtain ⟨c1, c2, c3, cf⟩ := h.cells
    refine ⟨_, c2, cf, h.setS 2 _, ?_⟩
    have hw := h.set.2.1 (wrap64 (qq + 1))
    by_cases hl2 : 4 < wrap64 (qq + 1)
    · exact .inl ⟨hl2, t, _, _, hw.set.2.2 false, hl⟩
    · exact .inr ⟨hl2, t, _, _, hw, hl⟩
/-- What was open stays open. -/
def Bal (st st' : Ow) : Prop := ∀ s', st' = some s' → ∃ s, st = some s ∧ s'.o = s.o ∧ s'.q = s.q
theorem WQ.lea {w : World} {o : Nat → Nat} {wb : Nat} {st : Ow} (h : WQ w o wb st) (hp : ∀ s, st = some s → 1 ≤ s.o) : ∃ oo : Int, w.cell? ⟨wb, 1, none⟩ = some (.int .i64 oo) ∧ (∀ j, w.frozen? ⟨wb, j, none⟩ = false) ∧ Step I12 w o (w.setCell ⟨wb, 1, none⟩ (.int .i64 (wrap64 (oo - 1)))) o ∧ WQ (w.setCell ⟨wb, 1, none⟩ (.int .i64 (wrap64 (oo - 1)))) o wb (leaO st) := by
  match st, h with
  | some x, h =>
    obtain ⟨c1, c2, c3, cf⟩ := h.1.cells
    refine ⟨_, c1, cf, h.1.setS 1 _, ?_⟩
    have h1 := hp x rfl
    have e : wrap64 ((x.o : Nat) - 1) = ((x.o - 1 : Nat) : Int) := by have := h.2.2.1; unfold wrap64; omega
    rw [e]
    exact ⟨h.1.set.1 _, h.2.1, by show x.o - 1 ≤ 64; have := h.2.2.1; omega, h.2.2.2⟩
  | none, ⟨t, oo, qq, h, hl⟩ =>
    obtain ⟨c1, c2, c3, cf⟩ := h.cells
    exact ⟨_, c1, cf, h.setS 1 _, t, _, _, h.set.1 _, hl⟩
theorem WQ.qle {w : World} {o : Nat → Nat} {wb : Nat} {st : Ow} (h : WQ w o wb st) (hp : ∀ s, st = some s → 1 ≤ s.q) : ∃ oo : Int, w.cell? ⟨wb, 2, none⟩ = some (.int .i64 oo) ∧ (∀ j, w.frozen? ⟨wb, j, none⟩ = false) ∧ Step I12 w o (w.setCell ⟨wb, 2, none⟩ (.int .i64 (wrap64 (oo - 1)))) o ∧ WQ (w.setCell ⟨wb, 2, none⟩ (.int .i64 (wrap64 (oo - 1)))) o wb (qleO st) := by
  match st, h with
  | some x, h =>
    obtain ⟨c1, c2, c3, cf⟩ := h.1.cells
    refine ⟨_, c2, cf, h.1.setS 2 _, ?_⟩
    have h1 := hp x rfl
    have e : wrap64 ((x.q : Nat) - 1) = ((x.q - 1 : Nat) : Int) := by have := h.2.2.2; unfold wrap64; omega
    rw [e]
    exact ⟨h.1.set.2.1 _, h.2.1, h.2.2.1, by show x.q - 1 ≤ 4; have := h.2.2.2; omega⟩
  | none, ⟨t, oo, qq, h, hl⟩ =>
    obtain ⟨c1, c2, c3, cf⟩ := h.cells
    exact ⟨_, c2, cf, h.setS 2 _, t, _, _, h.set.2.1 _, hl⟩
/-- Nothing more is written. -/
theorem WQ.end {w : World} {o : Nat → Nat} {wb : Nat} {st : Ow} (h : WQ w o wb st) : w.cell? ⟨wb, 3, none⟩ = some (.bool st.isSome) ∧ (∀ j, w.frozen? ⟨wb, j, none⟩ = false) ∧ Step I12 w o (w.setCell ⟨wb, 3, none⟩ (.bool false)) o ∧ WQ (w.setCell ⟨wb, 3, none⟩ (.bool false)) o wb none := by
  match st, h with
  | some x, h =>
    obtain ⟨c1, c2, c3, cf⟩ := h.1.cells
    exact ⟨c3, cf, h.1.setS 3 _, _, _, _, h.1.set.2.2 false, h.2.1⟩
  | none, ⟨t, oo, qq, h, hl⟩ =>
    obtain ⟨c1, c2, c3, cf⟩ := h.cells
    exact ⟨c3, cf, h.setS 3 _, _, _, _, h.set.2.2 false, hl⟩
set_option maxRecDepth 100000 in
theorem opens_o {w : World} {o : Nat → Nat} {wb : Nat} {st : Ow} (s : List UInt8) (h : WQ w o wb st) (hs : s.length ≤ 1000000) :
    Calls Tryz.prog 78 #[.pointer (some ⟨wb, 0, none⟩), stv s] w (PostO w o wb (putO s (entO st))) := by
  obtain ⟨oo, c1, cf, S1, hh⟩ := h.ent
  obtain ⟨w1, hw1⟩ : ∃ w1, w1 = w.setCell ⟨wb, 1, none⟩ (.int .i64 (wrap64 (oo + 1))) := ⟨_, rfl⟩
  have d1 : w1.cell? ⟨wb, 1, none⟩ = some (.int .i64 (wrap64 (oo + 1))) := by rw [hw1]; exact World.cell?_setCell_same _ _ _ c1
  have df : ∀ j, w1.frozen? ⟨wb, j, none⟩ = false := fun j => by rw [hw1]; exact (World.frozen?_setCell ..).trans (cf j)
  have d3 : w1.cell? ⟨wb, 3, none⟩ = some (.bool st.isSome) := by rw [hw1]; exact (World.cell?_setCell_other _ _ _ _ (by simp)).trans h.end.1
  rw [← hw1] at hh S1
  obtain ⟨W, hW⟩ : ∃ W, W = putO s (entO st) := ⟨_, rfl⟩
  rw [← hW]
  have HW : Hid (W = putO s (entO st)) := hW
  clear hW h
  rcases hh with ⟨hl, hq⟩ | ⟨hl, hq⟩
  · have S2 : Step I12 w o (w1.setCell ⟨wb, 3, none⟩ (.bool false)) o := by
      obtain ⟨t, oo2, qq, ok, hr, _⟩ := hq.raw
      refine S1.trans ?_
      obtain ⟨v, hb, _⟩ := hr
      exact setStep _ w1 o ⟨wb, 3, none⟩ _ (.inl hb.2)
    have c2 := puts_o s hq hs
    rw [← HW.out] at c2
    clear hq S1 HW
    go_enter Tryz.func78, Tryz.ntmps78
    go_upto_region 1 with fail
    rw [← hw1]
    clear hw1
    go_upto_region 3 with fail
    generalize w1.setCell ⟨wb, 3, none⟩ (.bool false) = w2 at *
    clear d1 df d3 c1 cf
    go_wp2_with fail
    refine c2.mono ?_
    rintro e w3 ⟨rfl, o3, h3, s3⟩
    have S3 := S2.trans s3
    clear c2 S2 s3
    go_wp2
    go_end0
    exact ⟨rfl, o3, h3, S3⟩
  · have c2 := puts_o s hq hs
    rw [← HW.out] at c2
    clear hq HW
    go_enter Tryz.func78, Tryz.ntmps78
    go_upto_region 1 with fail
    rw [← hw1]
    clear hw1 c1 cf
    go_wp2_with fail
    refine c2.mono ?_
    rintro e w3 ⟨rfl, o3, h3, s3⟩
    have S3 := S1.trans s3
    clear c2 S1 s3
    go_wp2
    go_end0
    exact ⟨rfl, o3, h3, S3⟩
end Go.Proofs.YtojleoionpnjpaaGreatDoor
