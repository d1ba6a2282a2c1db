/- The writer in memory; a text is laid. -/
import Derived.Test.YtfpmaeflmboalaaGreatDoorSynW
import Derived.Lib.AppendStr
import Derived.RegionTactic
import Derived.ChangeAlike
import Derived.BigRegion
namespace Go.Proofs.YtfpmaeflmboalaaGreatDoor
open Go.ChangeShapes Go.WideShapes Go.ChangeAt Go.RowKit
set_option linter.unusedVariables false
set_option linter.unusedSimpArgs false

/-- Where an append of a text leaves its row: in the old block, or in the newest one. -/
theorem run_append_where_str {P : Program} (w : World) (t u ty e : TypeId) (i : TypeInfo) (ht : P.underlying t = some (.slice e)) (hu : P.underlying u = some .string) (hi : P.info? e = some i) (hz : i.zero = some (.int .u8 0))
    (hsize : i.size = 1) (hby : i.bytes = 1) (v : Value) (n : Nat) (xs : List Value) (hown : w.ownsRow 0 e 1 v n xs) (s : ByteArray) (h63 : n + s.size ≤ maxLen) (hbytes : n + s.size ≤ 140737488355328) :
    ∃ v' w', (Builtin.append_ #[t, u] ty #[v, .string s]).run P w = .ok v' w' ∧ w'.ownsRow 0 e 1 v' (n + s.size) (xs ++ Go.Lib.strCells s) ∧ w.grownBy w' v.ownBlock ∧
      (v'.ownBlock = v.ownBlock ∨ ∃ k, v'.ownBlock = some k ∧ w.heap.size ≤ k) := by
  obtain ⟨v', w', hr, ho, hg, h4⟩ := Go.Lib.run_append_own_string (P := P) w 0 t u ty e i ht hu hi hz hsize hby v n xs hown s h63 hbytes (Nat.zero_le _)
  refine ⟨v', w', hr, ho, hg, ?_⟩
  have h63' : n + s.size ≤ 9223372036854775807 := by simp only [maxLen] at h63; omega
  rcases hown.2 with ⟨rfl, rfl⟩ | ⟨g, cap, cur, rfl, hbg, hgb, hnc, hcm, hcs, htake⟩
  · by_cases hm : s.size = 0
    · have h5 := h4.2 ⟨rfl, hm⟩
      subst h5
      exact .inl rfl
    · have hr' := run_append_nil_string (P := P) w t u ty e i (.int .u8 0) ht hu hi hz s (by omega) (by omega) (by rw [hby]; omega)
      rw [hr'] at hr
      injection hr with e1 e2
      subst e1
      exact .inr ⟨_, rfl, Nat.le_refl _⟩
  · by_cases hroom : n + s.size ≤ cap
    · have hcs' : cur.size = cap := by simpa using hcs
      have hr' := Go.Lib.run_append_room_string (P := P) w t u ty e i ht hu hi hsize g n cap cur hgb s hroom (by omega)
      rw [hr'] at hr
      injection hr with e1 e2
      subst e1
      exact .inl rfl
    · have holds : ∀ j u, xs[j]? = some u → w.cell? ((⟨g, 0, none⟩ : Addr).add j) = some u := hown.cells (g := g) rfl
      have hr' := Go.Lib.run_append_grow_string (P := P) w t u ty e i (.int .u8 0) ht hu hi hz ⟨g, 0, none⟩ n cap xs (by rw [hsize]; simpa using hown.1) holds s (by omega) (by omega) (by rw [hby]; exact growslice_fits (by omega) (by omega))
      rw [hr'] at hr
      injection hr with e1 e2
      subst e1
      exact .inr ⟨_, rfl, Nat.le_refl _⟩
/-- 'append(b, s...)' on an owned row, met in a walk. -/
theorem wpList_append_str {P : Program} {w : World} {ops : Array Oper} {rest : List Oper} {op : Oper} {a : Act} {Q : Exit → Act → World → Prop} (hgd : op.guard = none) (sl x : Operand) (t u : TypeId)
    (ho : op.op = .call { callee := .builtin .append, args := #[sl, x], argTypes := #[t, u] })
    (e : TypeId) (i : TypeInfo) (ht : P.underlying t = some (.slice e)) (hu : P.underlying u = some .string) (hi : P.info? e = some i) (hz : i.zero = some (.int .u8 0)) (hsize : i.size = 1) (hby : i.bytes = 1)
    (o : Nat → Nat) (lb : Nat) (v : Value) (n : Nat) (xs : List Value) (hs : a.eval sl = v) (hrow : Row w o lb e 1 v n xs) (s : ByteArray) (hx : a.eval x = .string s) (h63 : n + s.size ≤ maxLen) (hbytes : n + s.size ≤ 140737488355328)
    (h : ∀ v' w' o', Row w' o' lb e 1 v' (n + s.size) (xs ++ Go.Lib.strCells s) → Step (fun k => k = lb) w o w' o' → wpList P ops Q rest (a.put op.dst v') w') : wpList P ops Q (op :: rest) a w := by
  refine wpList_plain hgd fun _ hK => ?_
  obtain ⟨v', w', hr, h2, h3, h4⟩ := run_append_where_str (P := P) w t u op.type e i ht hu hi hz hsize hby v n xs hrow.1 s h63 hbytes
  unfold Oper.wp execOp
  simp only [ho, resolve, invoke, builtin, Sem.run_bind, Sem.run_pure, Result.andThen_ok, List.map_toArray, List.map_cons, List.map_nil, hs, hx, hr]
  have hst : Step (fun k => k = lb) w o w' (newLab w o lb) := Step.appended h3 rfl hrow.2
  have hrow' : Row w' (newLab w o lb) lb e 1 v' (n + s.size) (xs ++ Go.Lib.strCells s) := by
    refine ⟨h2, fun k hk => ?_⟩
    rcases h4 with h4 | ⟨k', h4, hk'⟩
    · rw [h4] at hk
      rw [newLab_old (hrow.lt hk)]
      exact hrow.2 k hk
    · rw [h4] at hk
      injection hk with hk
      subst hk
      exact newLab_new hk'
  exact hK _ _ (h v' w' _ hrow' hst)
/-- A text's bytes. -/
def byL (t : List UInt8) : List Value := t.map fun b => Value.int .u8 b.toNat
theorem byL_app (s t : List UInt8) : byL s ++ Go.Lib.strCells ⟨t.toArray⟩ = byL (s ++ t) := by simp [byL, Go.Lib.strCells]
theorem size_mk (t : List UInt8) : (ByteArray.mk t.toArray).size = t.length := by simp [ByteArray.size]
/-- The writer in memory: the text, what is open, how much at most; quantifiers likewise. -/
def Wr (w : World) (o : Nat → Nat) (wb : Nat) (t : List UInt8) (a m b n : Nat) : Prop :=
  ∃ v, Blk w o 1 wb (.cells #[v, .int .i64 (a : Nat), .int .i64 (m : Nat), .int .i64 (b : Nat), .int .i64 (n : Nat)] 90 (0, 0)) ∧ Row w o 2 5 1 v t.length (byL t)
abbrev I12 : Nat → Prop := fun k => k = 1 ∨ k = 2
theorem Wr.lt {w : World} {o : Nat → Nat} {wb : Nat} {t : List UInt8} {a m b n : Nat} (h : Wr w o wb t a m b n) : wb < w.heap.size := by
  obtain ⟨v, h1, _⟩ := h
  exact h1.lt
/-- What leaves the writer alone. -/
theorem Wr.step {I : Nat → Prop} {w w' : World} {o o' : Nat → Nat} {wb : Nat} {t : List UInt8} {a m b n : Nat} (h : Wr w o wb t a m b n) (s : Step I w o w' o') (h1 : ¬ I 1) (h2 : ¬ I 2) : Wr w' o' wb t a m b n := by
  obtain ⟨v, hb, hr⟩ := h
  exact ⟨v, hb.step s h1, hr.step s h2⟩
theorem infoU8 : (Tryz.prog.info? 5).map (fun i => (i.zero, i.size, i.bytes)) = some (some (.int .u8 0), 1, 1) := by kernel_rfl
/-- What a call of the writer's leaves. -/
def PostW (w : World) (o : Nat → Nat) (wb : Nat) (t : List UInt8) (a m b n : Nat) (e : Ending) (w' : World) : Prop :=
  e = .returned (.tuple #[]) ∧ ∃ o', Wr w' o' wb t a m b n ∧ Step I12 w o w' o'
set_option maxRecDepth 100000 in
theorem lay_r {w : World} {o : Nat → Nat} {wb : Nat} {t : List UInt8} {a m b n : Nat} (s : List UInt8) (h : Wr w o wb t a m b n) (hs : t.length + s.length ≤ 100000000) :
    Calls Tryz.prog 80 #[.pointer (some ⟨wb, 0, none⟩), stv s] w (PostW w o wb (t ++ s) a m b n) := by
  obtain ⟨v, hb, hr⟩ := h
  obtain ⟨c0, c1, c2, c3, c4, cf⟩ := Blk.cells5 hb
  obtain ⟨ii, hii, hz0, hz1, hz2⟩ := info_parts infoU8
  have hsz := size_mk s
  go_enter Tryz.func80, Tryz.ntmps80
  go_wp2_with (first | (at_builtin; refine wpList_append_str rfl (.tmp 8) (.tmp 9) 49 9 rfl 5 ii Tryz.underlying49 Tryz.underlying9 hii hz0 hz1 hz2 o 2 v t.length (byL t) rfl hr ⟨s.toArray⟩ rfl ?c1 ?c2 ?_) | go_in)
  case c1 => unfold maxLen; omega
  case c2 => omega
  intro v' w' o' hr' hst
  obtain ⟨ao', cap', rfl⟩ := hr'.form
  have hb' := hb.step hst (by decide)
  obtain ⟨d0, d1, d2, d3, d4, df⟩ := Blk.cells5 hb'
  have hb2 := hb'.set 0 (.slice ao' (t.length + s.length) cap')
  have s2 : Step I12 w' o' (w'.setCell ⟨wb, 0, none⟩ (.slice ao' (t.length + s.length) cap')) o' := setStep I12 w' o' ⟨wb, 0, none⟩ (.slice ao' (t.length + s.length) cap') (.inl hb'.2)
  have s3 := (hst.mono (fun k hk => (.inr hk : I12 k))).trans s2
  have s4 : Step (fun k => k = 1) w' o' (w'.setCell ⟨wb, 0, none⟩ (.slice ao' (t.length + s.length) cap')) o' := setStep _ w' o' ⟨wb, 0, none⟩ (.slice ao' (t.length + s.length) cap') hb'.2
  have hr2 := hr'.step s4 (by decide)
  rw [byL_app] at hr2
  have hr3 : Row (w'.setCell ⟨wb, 0, none⟩ (.slice ao' (t.length + s.length) cap')) o' 2 5 1 (.slice ao' (t.length + s.length) cap') (t ++ s).length (byL (t ++ s)) := by
    rw [List.length_append]
    exact hr2
  clear hr2 hst s2 s4 hr' hb hr c0 c1 c2 c3 c4 cf
  go_wp2
  go_end0
  exact ⟨rfl, o', ⟨_, hb2, hr3⟩, s3⟩
set_option maxRecDepth 100000 in
theorem dleave_r {w : World} {b j : Nat} (x : Nat) (h0 : w.cell? ⟨b, j, none⟩ = some (.int .i64 ((x + 1 : Nat) : Int))) (hf : ∀ j, w.frozen? ⟨b, j, none⟩ = false) (hx : x ≤ 1000000) :
    Calls Tryz.prog 100 #[.pointer (some ⟨b, j, none⟩)] w fun e w' => e = .returned (.tuple #[]) ∧ w' = w.setCell ⟨b, j, none⟩ (.int .i64 (x : Nat)) := by
  have e1 : ((x + 1 : Nat) : Int) = (x : Int) + 1 := by omega
  rw [e1] at h0
  go_enter Tryz.func100, Tryz.ntmps100
  go_wp2
  go_end0
  exact ⟨rfl, rfl⟩
set_option maxRecDepth 100000 in
theorem denter_r {w : World} {b j : Nat} (x y : Nat) (h0 : w.cell? ⟨b, j, none⟩ = some (.int .i64 (x : Nat))) (h1 : w.cell? ⟨b, j + 1, none⟩ = some (.int .i64 (y : Nat))) (hf : ∀ j, w.frozen? ⟨b, j, none⟩ = false) (hx : x ≤ 1000000) (hy : y ≤ 1000000) :
    Calls Tryz.prog 99 #[.pointer (some ⟨b, j, none⟩)] w fun e w' => e = .returned (.tuple #[]) ∧ w' = ((w.setCell ⟨b, j, none⟩ (.int .i64 ((x + 1 : Nat) : Int))).setCell ⟨b, j + 1, none⟩ (.int .i64 ((max y (x + 1) : Nat) : Int))).drew := by
  have h0' : (w.setCell ⟨b, j, none⟩ (.int .i64 ((x : Int) + 1))).cell? ⟨b, j, none⟩ = some (.int .i64 ((x : Int) + 1)) := World.cell?_setCell_same _ _ _ h0
  have h1' : (w.setCell ⟨b, j, none⟩ (.int .i64 ((x : Int) + 1))).cell? ⟨b, j + 1, none⟩ = some (.int .i64 (y : Nat)) := (World.cell?_setCell_other _ _ _ _ (by simp)).trans h1
  have hf' : ∀ k, (w.setCell ⟨b, j, none⟩ (.int .i64 ((x : Int) + 1))).frozen? ⟨b, k, none⟩ = false := fun k => (World.frozen?_setCell ..).trans (hf k)
  have e1 : ((x + 1 : Nat) : Int) = (x : Int) + 1 := by omega
  have e2 : ((max y (x + 1) : Nat) : Int) = max (y : Int) ((x : Int) + 1) := by omega
  rw [e1, e2]
  obtain ⟨w1, hw1⟩ : ∃ w1, w1 = w.setCell ⟨b, j, none⟩ (.int .i64 ((x : Int) + 1)) := ⟨_, rfl⟩
  rw [← hw1] at h0' h1' hf' ⊢
  go_enter Tryz.func99, Tryz.ntmps99
  go_upto_region 1 with fail
  rw [← hw1]
  go_region
  go_end0
  exact ⟨rfl, by rw [hw1]⟩
theorem Wr.drew {w : World} {o : Nat → Nat} {wb : Nat} {t : List UInt8} {a m b n : Nat} (h : Wr w o wb t a m b n) : Wr w.drew o wb t a m b n := h
theorem openE_r {w : World} {o : Nat → Nat} {wb : Nat} {t : List UInt8} {a m b n : Nat} (h : Wr w o wb t a m b n) (ha : a ≤ 1000000) (hm : m ≤ 1000000) :
    Calls Tryz.prog 99 #[.pointer (some ⟨wb, 1, none⟩)] w (PostW w o wb t (a + 1) (max m (a + 1)) b n) := by
  obtain ⟨v, hb, hr⟩ := h
  obtain ⟨c0, c1, c2, c3, c4, cf⟩ := Blk.cells5 hb
  refine (denter_r a m c1 c2 cf ha hm).mono ?_
  rintro e w' ⟨rfl, rfl⟩
  have s1 : Step (fun k => k = 1) w o (((w.setCell ⟨wb, 1, none⟩ (.int .i64 ((a + 1 : Nat) : Int))).setCell ⟨wb, 2, none⟩ (.int .i64 ((max m (a + 1) : Nat) : Int))).drew) o := (((Step.refl _ w o).setCell ⟨wb, 1, none⟩ _ hb.2).setCell ⟨wb, 2, none⟩ _ hb.2).drew
  exact ⟨rfl, o, ⟨v, (hb.set 1 _).set 2 _, hr.step s1 (by decide)⟩, s1.mono fun k hk => .inl hk⟩
theorem quantE_r {w : World} {o : Nat → Nat} {wb : Nat} {t : List UInt8} {a m b n : Nat} (h : Wr w o wb t a m b n) (ha : b ≤ 1000000) (hm : n ≤ 1000000) :
    Calls Tryz.prog 99 #[.pointer (some ⟨wb, 3, none⟩)] w (PostW w o wb t a m (b + 1) (max n (b + 1))) := by
  obtain ⟨v, hb, hr⟩ := h
  obtain ⟨c0, c1, c2, c3, c4, cf⟩ := Blk.cells5 hb
  refine (denter_r b n c3 c4 cf ha hm).mono ?_
  rintro e w' ⟨rfl, rfl⟩
  have s1 : Step (fun k => k = 1) w o (((w.setCell ⟨wb, 3, none⟩ (.int .i64 ((b + 1 : Nat) : Int))).setCell ⟨wb, 4, none⟩ (.int .i64 ((max n (b + 1) : Nat) : Int))).drew) o := (((Step.refl _ w o).setCell ⟨wb, 3, none⟩ _ hb.2).setCell ⟨wb, 4, none⟩ _ hb.2).drew
  exact ⟨rfl, o, ⟨v, (hb.set 3 _).set 4 _, hr.step s1 (by decide)⟩, s1.mono fun k hk => .inl hk⟩
theorem openL_r {w : World} {o : Nat → Nat} {wb : Nat} {t : List UInt8} {a m b n : Nat} (h : Wr w o wb t (a + 1) m b n) (ha : a ≤ 1000000) :
    Calls Tryz.prog 100 #[.pointer (some ⟨wb, 1, none⟩)] w (PostW w o wb t a m b n) := by
  obtain ⟨v, hb, hr⟩ := h
  obtain ⟨c0, c1, c2, c3, c4, cf⟩ := Blk.cells5 hb
  refine (dleave_r a c1 cf ha).mono ?_
  rintro e w' ⟨rfl, rfl⟩
  have s1 : Step (fun k => k = 1) w o (w.setCell ⟨wb, 1, none⟩ (.int .i64 (a : Nat))) o := (Step.refl _ w o).setCell ⟨wb, 1, none⟩ _ hb.2
  exact ⟨rfl, o, ⟨v, hb.set 1 _, hr.step s1 (by decide)⟩, s1.mono fun k hk => .inl hk⟩
theorem quantL_r {w : World} {o : Nat → Nat} {wb : Nat} {t : List UInt8} {a m b n : Nat} (h : Wr w o wb t a m (b + 1) n) (ha : b ≤ 1000000) :
    Calls Tryz.prog 100 #[.pointer (some ⟨wb, 3, none⟩)] w (PostW w o wb t a m b n) := by
  obtain ⟨v, hb, hr⟩ := h
  obtain ⟨c0, c1, c2, c3, c4, cf⟩ := Blk.cells5 hb
  refine (dleave_r b c3 cf ha).mono ?_
  rintro e w' ⟨rfl, rfl⟩
  have s1 : Step (fun k => k = 1) w o (w.setCell ⟨wb, 3, none⟩ (.int .i64 (b : Nat))) o := (Step.refl _ w o).setCell ⟨wb, 3, none⟩ _ hb.2
  exact ⟨rfl, o, ⟨v, hb.set 3 _, hr.step s1 (by decide)⟩, s1.mono fun k hk => .inl hk⟩
end Go.Proofs.YtfpmaeflmboalaaGreatDoor
