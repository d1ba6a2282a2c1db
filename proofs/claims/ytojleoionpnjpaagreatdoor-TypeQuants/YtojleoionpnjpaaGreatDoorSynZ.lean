/- What the writer lays: a plain writer. No program. -/
import Derived.Test.YtojleoionpnjpaaGreatDoorSynW
import Derived.Lib.AppendStr
import Derived.RegionTactic
import Derived.ChangeAlike
import Derived.BigRegion
import Derived.Shelf.Strconv.Itoa3
import Derived.Lib.ItoaLen
import Derived.Lib.SmallJoins
import Derived.Lib.Small
import Derived.Lib.AppendIntMem
namespace Go.Proofs.YtojleoionpnjpaaGreatDoor
open Go.ChangeShapes Go.WideShapes Go.ChangeAt Go.RowKit
set_option linter.unusedVariables false
set_option linter.unusedSimpArgs false

/-- Where an append of a text leaves its row: in the old block, or in the newest one. -/
theorem run_append_where_str {P : Program} (w : World) (t u ty e : TypeId) (i : TypeInfo) (ht : P.underlying t = some (.slice e)) (hu : P.underlying u = some .string) (hi : P.info? e = some i) (hz : i.zero = some (.int .u8 0))
    (hsize : i.size = 1) (hby : i.bytes = 1) (v : Value) (n : Nat) (xs : List Value) (hown : w.ownsRow 0 e 1 v n xs) (s : ByteArray) (h63 : n + s.size ≤ maxLen) (hbytes : n + s.size ≤ 140737488355328) :
    ∃ v' w', (Builtin.append_ #[t, u] ty #[v, .string s]).run P w = .ok v' w' ∧ w'.ownsRow 0 e 1 v' (n + s.size) (xs ++ Go.Lib.strCells s) ∧ w.grownBy w' v.ownBlock ∧
      (v'.ownBlock = v.ownBlock ∨ ∃ k, v'.ownBlock = some k ∧ w.heap.size ≤ k) := by
  obtain ⟨v', w', hr, ho, hg, h4⟩ := Go.Lib.run_append_own_string (P := P) w 0 t u ty e i ht hu hi hz hsize hby v n xs hown s h63 hbytes (Nat.zero_le _)
  refine ⟨v', w', hr, ho, hg, ?_⟩
  have h63' : n + s.size ≤ 9223372036854775807 := by simp only [maxLen] at h63; omega
  rcases hown.2 with ⟨rfl, rfl⟩ | ⟨g, cap, cur, rfl, hbg, hgb, hnc, hcm, hcs, htake⟩
  · by_cases hm : s.size = 0
    · have h5 := h4.2 ⟨rfl, hm⟩
      subst h5
      exact .inl rfl
    · have hr' := run_append_nil_string (P := P) w t u ty e i (.int .u8 0) ht hu hi hz s (by omega) (by omega) (by rw [hby]; omega)
      rw [hr'] at hr
      injection hr with e1 e2
      subst e1
      exact .inr ⟨_, rfl, Nat.le_refl _⟩
  · by_cases hroom : n + s.size ≤ cap
    · have hcs' : cur.size = cap := by simpa using hcs
      have hr' := Go.Lib.run_append_room_string (P := P) w t u ty e i ht hu hi hsize g n cap cur hgb s hroom (by omega)
      rw [hr'] at hr
      injection hr with e1 e2
      subst e1
      exact .inl rfl
    · have holds : ∀ j u, xs[j]? = some u → w.cell? ((⟨g, 0, none⟩ : Addr).add j) = some u := hown.cells (g := g) rfl
      have hr' := Go.Lib.run_append_grow_string (P := P) w t u ty e i (.int .u8 0) ht hu hi hz ⟨g, 0, none⟩ n cap xs (by rw [hsize]; simpa using hown.1) holds s (by omega) (by omega) (by rw [hby]; exact growslice_fits (by omega) (by omega))
      rw [hr'] at hr
      injection hr with e1 e2
      subst e1
      exact .inr ⟨_, rfl, Nat.le_refl _⟩
/-- 'append(b, s...)' on an owned row, met in a walk. -/
theorem wpList_append_str {P : Program} {w : World} {ops : Array Oper} {rest : List Oper} {op : Oper} {a : Act} {Q : Exit → Act → World → Prop} (hgd : op.guard = none) (sl x : Operand) (t u : TypeId)
    (ho : op.op = .call { callee := .builtin .append, args := #[sl, x], argTypes := #[t, u] })
    (e : TypeId) (i : TypeInfo) (ht : P.underlying t = some (.slice e)) (hu : P.underlying u = some .string) (hi : P.info? e = some i) (hz : i.zero = some (.int .u8 0)) (hsize : i.size = 1) (hby : i.bytes = 1)
    (o : Nat → Nat) (lb : Nat) (v : Value) (n : Nat) (xs : List Value) (hs : a.eval sl = v) (hrow : Row w o lb e 1 v n xs) (s : ByteArray) (hx : a.eval x = .string s) (h63 : n + s.size ≤ maxLen) (hbytes : n + s.size ≤ 140737488355328)
    (h : ∀ v' w' o', Row w' o' lb e 1 v' (n + s.size) (xs ++ Go.Lib.strCells s) → Step (fun k => k = lb) w o w' o' → wpList P ops Q rest (a.put op.dst v') w') : wpList P ops Q (op :: rest) a w := by
  refine wpList_plain hgd fun _ hK => ?_
  obtain ⟨v', w', hr, h2, h3, h4⟩ := run_append_where_str (P := P) w t u op.type e i ht hu hi hz hsize hby v n xs hrow.1 s h63 hbytes
  unfold Oper.wp execOp
  simp only [ho, resolve, invoke, builtin, Sem.run_bind, Sem.run_pure, Result.andThen_ok, List.map_toArray, List.map_cons, List.map_nil, hs, hx, hr]
  have hst : Step (fun k => k = lb) w o w' (newLab w o lb) := Step.appended h3 rfl hrow.2
  have hrow' : Row w' (newLab w o lb) lb e 1 v' (n + s.size) (xs ++ Go.Lib.strCells s) := by
    refine ⟨h2, fun k hk => ?_⟩
    rcases h4 with h4 | ⟨k', h4, hk'⟩
    · rw [h4] at hk
      rw [newLab_old (hrow.lt hk)]
      exact hrow.2 k hk
    · rw [h4] at hk
      injection hk with hk
      subst hk
      exact newLab_new hk'
  exact hK _ _ (h v' w' _ hrow' hst)
/-- A text's bytes. -/
def byL (t : List UInt8) : List Value := t.map fun b => Value.int .u8 b.toNat
theorem byL_app (s t : List UInt8) : byL s ++ Go.Lib.strCells ⟨t.toArray⟩ = byL (s ++ t) := by simp [byL, Go.Lib.strCells]
theorem size_mk (t : List UInt8) : (ByteArray.mk t.toArray).size = t.length := by simp [ByteArray.size]
/-- The writer in memory: the text, what is open, how much at most; quantifiers likewise. -/
def Wr (w : World) (o : Nat → Nat) (wb : Nat) (t : List UInt8) (a m b n : Nat) : Prop :=
  ∃ v, Blk w o 1 wb (.cells #[v, .int .i64 (a : Nat), .int .i64 (m : Nat), .int .i64 (b : Nat), .int .i64 (n : Nat)] 98 (0, 0)) ∧ Row w o 2 5 1 v t.length (byL t)
abbrev I12 : Nat → Prop := fun k => k = 1 ∨ k = 2
theorem Wr.lt {w : World} {o : Nat → Nat} {wb : Nat} {t : List UInt8} {a m b n : Nat} (h : Wr w o wb t a m b n) : wb < w.heap.size := by
  obtain ⟨v, h1, _⟩ := h
  exact h1.lt
/-- What leaves the writer alone. -/
theorem Wr.step {I : Nat → Prop} {w w' : World} {o o' : Nat → Nat} {wb : Nat} {t : List UInt8} {a m b n : Nat} (h : Wr w o wb t a m b n) (s : Step I w o w' o') (h1 : ¬ I 1) (h2 : ¬ I 2) : Wr w' o' wb t a m b n := by
  obtain ⟨v, hb, hr⟩ := h
  exact ⟨v, hb.step s h1, hr.step s h2⟩
theorem infoU8 : (Tryz.prog.info? 5).map (fun i => (i.zero, i.size, i.bytes)) = some (some (.int .u8 0), 1, 1) := by kernel_rfl
/-- What a call of the writer's leaves. -/
def PostW (w : World) (o : Nat → Nat) (wb : Nat) (t : List UInt8) (a m b n : Nat) (e : Ending) (w' : World) : Prop :=
  e = .returned (.tuple #[]) ∧ ∃ o', Wr w' o' wb t a m b n ∧ Step I12 w o w' o'
set_option maxRecDepth 100000 in
theorem lay_r {w : World} {o : Nat → Nat} {wb : Nat} {t : List UInt8} {a m b n : Nat} (s : List UInt8) (h : Wr w o wb t a m b n) (hs : t.length + s.length ≤ 100000000) :
    Calls Tryz.prog 91 #[.pointer (some ⟨wb, 0, none⟩), stv s] w (PostW w o wb (t ++ s) a m b n) := by
  obtain ⟨v, hb, hr⟩ := h
  obtain ⟨c0, c1, c2, c3, c4, cf⟩ := Blk.cells5 hb
  obtain ⟨ii, hii, hz0, hz1, hz2⟩ := info_parts infoU8
  have hsz := size_mk s
  go_enter Tryz.func91, Tryz.ntmps91
  go_wp2_with (first | (at_builtin; refine wpList_append_str rfl (.tmp 8) (.tmp 9) 87 9 rfl 5 ii Tryz.underlying87 Tryz.underlying9 hii hz0 hz1 hz2 o 2 v t.length (byL t) rfl hr ⟨s.toArray⟩ rfl ?c1 ?c2 ?_) | go_in)
  case c1 => unfold maxLen; omega
  case c2 => omega
  intro v' w' o' hr' hst
  obtain ⟨ao', cap', rfl⟩ := hr'.form
  have hb' := hb.step hst (by decide)
  obtain ⟨d0, d1, d2, d3, d4, df⟩ := Blk.cells5 hb'
  have hb2 := hb'.set 0 (.slice ao' (t.length + s.length) cap')
  have s2 : Step I12 w' o' (w'.setCell ⟨wb, 0, none⟩ (.slice ao' (t.length + s.length) cap')) o' := setStep I12 w' o' ⟨wb, 0, none⟩ (.slice ao' (t.length + s.length) cap') (.inl hb'.2)
  have s3 := (hst.mono (fun k hk => (.inr hk : I12 k))).trans s2
  have s4 : Step (fun k => k = 1) w' o' (w'.setCell ⟨wb, 0, none⟩ (.slice ao' (t.length + s.length) cap')) o' := setStep _ w' o' ⟨wb, 0, none⟩ (.slice ao' (t.length + s.length) cap') hb'.2
  have hr2 := hr'.step s4 (by decide)
  rw [byL_app] at hr2
  have hr3 : Row (w'.setCell ⟨wb, 0, none⟩ (.slice ao' (t.length + s.length) cap')) o' 2 5 1 (.slice ao' (t.length + s.length) cap') (t ++ s).length (byL (t ++ s)) := by
    rw [List.length_append]
    exact hr2
  clear hr2 hst s2 s4 hr' hb hr c0 c1 c2 c3 c4 cf
  go_wp2
  go_end0
  exact ⟨rfl, o', ⟨_, hb2, hr3⟩, s3⟩
set_option maxRecDepth 100000 in
theorem dleave_r {w : World} {b j : Nat} (x : Nat) (h0 : w.cell? ⟨b, j, none⟩ = some (.int .i64 ((x + 1 : Nat) : Int))) (hf : ∀ j, w.frozen? ⟨b, j, none⟩ = false) (hx : x ≤ 1000000) :
    Calls Tryz.prog 116 #[.pointer (some ⟨b, j, none⟩)] w fun e w' => e = .returned (.tuple #[]) ∧ w' = w.setCell ⟨b, j, none⟩ (.int .i64 (x : Nat)) := by
  have e1 : ((x + 1 : Nat) : Int) = (x : Int) + 1 := by omega
  rw [e1] at h0
  go_enter Tryz.func116, Tryz.ntmps116
  go_wp2
  go_end0
  exact ⟨rfl, rfl⟩
set_option maxRecDepth 100000 in
theorem denter_r {w : World} {b j : Nat} (x y : Nat) (h0 : w.cell? ⟨b, j, none⟩ = some (.int .i64 (x : Nat))) (h1 : w.cell? ⟨b, j + 1, none⟩ = some (.int .i64 (y : Nat))) (hf : ∀ j, w.frozen? ⟨b, j, none⟩ = false) (hx : x ≤ 1000000) (hy : y ≤ 1000000) :
    Calls Tryz.prog 115 #[.pointer (some ⟨b, j, none⟩)] w fun e w' => e = .returned (.tuple #[]) ∧ w' = ((w.setCell ⟨b, j, none⟩ (.int .i64 ((x + 1 : Nat) : Int))).setCell ⟨b, j + 1, none⟩ (.int .i64 ((max y (x + 1) : Nat) : Int))).drew := by
  have h0' : (w.setCell ⟨b, j, none⟩ (.int .i64 ((x : Int) + 1))).cell? ⟨b, j, none⟩ = some (.int .i64 ((x : Int) + 1)) := World.cell?_setCell_same _ _ _ h0
  have h1' : (w.setCell ⟨b, j, none⟩ (.int .i64 ((x : Int) + 1))).cell? ⟨b, j + 1, none⟩ = some (.int .i64 (y : Nat)) := (World.cell?_setCell_other _ _ _ _ (by simp)).trans h1
  have hf' : ∀ k, (w.setCell ⟨b, j, none⟩ (.int .i64 ((x : Int) + 1))).frozen? ⟨b, k, none⟩ = false := fun k => (World.frozen?_setCell ..).trans (hf k)
  have e1 : ((x + 1 : Nat) : Int) = (x : Int) + 1 := by omega
  have e2 : ((max y (x + 1) : Nat) : Int) = max (y : Int) ((x : Int) + 1) := by omega
  rw [e1, e2]
  obtain ⟨w1, hw1⟩ : ∃ w1, w1 = w.setCell ⟨b, j, none⟩ (.int .i64 ((x : Int) + 1)) := ⟨_, rfl⟩
  rw [← hw1] at h0' h1' hf' ⊢
  go_enter Tryz.func115, Tryz.ntmps115
  go_upto_region 1 with fail
  rw [← hw1]
  go_region
  go_end0
  exact ⟨rfl, by rw [hw1]⟩
theorem Wr.drew {w : World} {o : Nat → Nat} {wb : Nat} {t : List UInt8} {a m b n : Nat} (h : Wr w o wb t a m b n) : Wr w.drew o wb t a m b n := h
theorem openE_r {w : World} {o : Nat → Nat} {wb : Nat} {t : List UInt8} {a m b n : Nat} (h : Wr w o wb t a m b n) (ha : a ≤ 1000000) (hm : m ≤ 1000000) :
    Calls Tryz.prog 115 #[.pointer (some ⟨wb, 1, none⟩)] w (PostW w o wb t (a + 1) (max m (a + 1)) b n) := by
  obtain ⟨v, hb, hr⟩ := h
  obtain ⟨c0, c1, c2, c3, c4, cf⟩ := Blk.cells5 hb
  refine (denter_r a m c1 c2 cf ha hm).mono ?_
  rintro e w' ⟨rfl, rfl⟩
  have s1 : Step (fun k => k = 1) w o (((w.setCell ⟨wb, 1, none⟩ (.int .i64 ((a + 1 : Nat) : Int))).setCell ⟨wb, 2, none⟩ (.int .i64 ((max m (a + 1) : Nat) : Int))).drew) o := (((Step.refl _ w o).setCell ⟨wb, 1, none⟩ _ hb.2).setCell ⟨wb, 2, none⟩ _ hb.2).drew
  exact ⟨rfl, o, ⟨v, (hb.set 1 _).set 2 _, hr.step s1 (by decide)⟩, s1.mono fun k hk => .inl hk⟩
theorem quantE_r {w : World} {o : Nat → Nat} {wb : Nat} {t : List UInt8} {a m b n : Nat} (h : Wr w o wb t a m b n) (ha : b ≤ 1000000) (hm : n ≤ 1000000) :
    Calls Tryz.prog 115 #[.pointer (some ⟨wb, 3, none⟩)] w (PostW w o wb t a m (b + 1) (max n (b + 1))) := by
  obtain ⟨v, hb, hr⟩ := h
  obtain ⟨c0, c1, c2, c3, c4, cf⟩ := Blk.cells5 hb
  refine (denter_r b n c3 c4 cf ha hm).mono ?_
  rintro e w' ⟨rfl, rfl⟩
  have s1 : Step (fun k => k = 1) w o (((w.setCell ⟨wb, 3, none⟩ (.int .i64 ((b + 1 : Nat) : Int))).setCell ⟨wb, 4, none⟩ (.int .i64 ((max n (b + 1) : Nat) : Int))).drew) o := (((Step.refl _ w o).setCell ⟨wb, 3, none⟩ _ hb.2).setCell ⟨wb, 4, none⟩ _ hb.2).drew
  exact ⟨rfl, o, ⟨v, (hb.set 3 _).set 4 _, hr.step s1 (by decide)⟩, s1.mono fun k hk => .inl hk⟩
theorem openL_r {w : World} {o : Nat → Nat} {wb : Nat} {t : List UInt8} {a m b n : Nat} (h : Wr w o wb t (a + 1) m b n) (ha : a ≤ 1000000) :
    Calls Tryz.prog 116 #[.pointer (some ⟨wb, 1, none⟩)] w (PostW w o wb t a m b n) := by
  obtain ⟨v, hb, hr⟩ := h
  obtain ⟨c0, c1, c2, c3, c4, cf⟩ := Blk.cells5 hb
  refine (dleave_r a c1 cf ha).mono ?_
  rintro e w' ⟨rfl, rfl⟩
  have s1 : Step (fun k => k = 1) w o (w.setCell ⟨wb, 1, none⟩ (.int .i64 (a : Nat))) o := (Step.refl _ w o).setCell ⟨wb, 1, none⟩ _ hb.2
  exact ⟨rfl, o, ⟨v, hb.set 1 _, hr.step s1 (by decide)⟩, s1.mono fun k hk => .inl hk⟩
theorem quantL_r {w : World} {o : Nat → Nat} {wb : Nat} {t : List UInt8} {a m b n : Nat} (h : Wr w o wb t a m (b + 1) n) (ha : b ≤ 1000000) :
    Calls Tryz.prog 116 #[.pointer (some ⟨wb, 3, none⟩)] w (PostW w o wb t a m b n) := by
  obtain ⟨v, hb, hr⟩ := h
  obtain ⟨c0, c1, c2, c3, c4, cf⟩ := Blk.cells5 hb
  refine (dleave_r b c3 cf ha).mono ?_
  rintro e w' ⟨rfl, rfl⟩
  have s1 : Step (fun k => k = 1) w o (w.setCell ⟨wb, 3, none⟩ (.int .i64 (b : Nat))) o := (Step.refl _ w o).setCell ⟨wb, 3, none⟩ _ hb.2
  exact ⟨rfl, o, ⟨v, hb.set 3 _, hr.step s1 (by decide)⟩, s1.mono fun k hk => .inl hk⟩
end Go.Proofs.YtojleoionpnjpaaGreatDoor
namespace Go.Proofs.YtojleoionpnjpaaGreatDoor
open Go.ChangeShapes Go.WideShapes Go.ChangeAt Go.RowKit Go.Shelf
set_option linter.unusedVariables false
set_option linter.unusedSimpArgs false

/-- The library's table of powers. -/
def P10 (w : World) : Prop := Go.Lib.TabIs Tryz.prog w "internal/strconv.uint64pow10" .u64 Go.Lib.pow10Tab
theorem P10.below {w w' : World} (h : P10 w) (b : Below w.heap.size w w') : P10 w' := var_below atoiLay.m17 h b
theorem itoa_r (n : Int) (h0 : 0 ≤ n) (h1 : n ≤ 9223372036854775807) (w : World) (hP : P10 w) :
    Calls Tryz.prog 117 #[.int .i64 n] w fun e w' => e = .returned (stv (Go.Lib.itoa n)) ∧ Below w.heap.size w w' := by
  refine (Any.strconv_Itoa (P := Tryz.prog) (ρ := atoiLay_ren) { atoiLay with } n (by omega) h1 w hP).mono ?_
  rintro e w' ⟨rfl, k, os, rfl⟩
  exact ⟨rfl, Go.Lib.below_grow _ w (Nat.le_refl _) k os⟩
theorem ifbool_r (b : Bool) (w : World) : Calls Tryz.prog 136 #[.bool b] w fun e w' => e = .returned (stv (Go.Lib.formatBool b)) ∧ w' = w := by
  cases b
  · go_enter Tryz.func136, Tryz.ntmps136
    go_wp2
    go_ret
    exact ⟨rfl, rfl⟩
  · go_enter Tryz.func136, Tryz.ntmps136
    go_wp2
    go_ret
    exact ⟨rfl, rfl⟩
theorem fbool_r (b : Bool) (w : World) : Calls Tryz.prog 118 #[.bool b] w fun e w' => e = .returned (stv (Go.Lib.formatBool b)) ∧ w' = w := by
  have c := ifbool_r b w
  go_enter Tryz.func118, Tryz.ntmps118
  go_wp2_with fail
  refine c.mono ?_
  rintro e w' ⟨rfl, rfl⟩
  go_wp2
  go_ret
  exact ⟨rfl, rfl⟩
end Go.Proofs.YtojleoionpnjpaaGreatDoor
namespace Go.Proofs.YtojleoionpnjpaaGreatDoor
set_option linter.unusedVariables false
set_option linter.unusedSimpArgs false

/-- The writer: its text, what is open, how much at most; quantifiers likewise. -/
structure St where
  t : List UInt8
  a : Nat
  m : Nat
  b : Nat
  n : Nat
def St.lay (s : St) (x : List UInt8) : St := ⟨s.t ++ x, s.a, s.m, s.b, s.n⟩
def St.ent (s : St) : St := ⟨s.t, s.a + 1, max s.m (s.a + 1), s.b, s.n⟩
def St.lea (s : St) : St := ⟨s.t, s.a - 1, s.m, s.b, s.n⟩
def St.qent (s : St) : St := ⟨s.t, s.a, s.m, s.b + 1, max s.n (s.b + 1)⟩
def St.qlea (s : St) : St := ⟨s.t, s.a, s.m, s.b - 1, s.n⟩
def qword (n : Int) : List UInt8 := match quantOf n with | some x => x.1 | none => []
def cword (n : Int) : List UInt8 := match callOf n with | some x => x.1 | none => []
/-- What stands ahead of a kid, and the row that is asked of it. -/
abbrev Sep := Nat → List UInt8 × Nat
def comS : Sep := fun i => (if i = 0 then [] else [44, 32], 0)
def ifS : Sep := fun i => (if i = 0 then [105, 102, 32] else if i = 1 then [32, 116, 104, 101, 110, 32] else [32, 101, 108, 115, 101, 32], 0)
def quS (n : Int) (nm : List UInt8) : Sep := fun i => (if i = 0 then qword n ++ [32] ++ nm ++ [32, 105, 110, 32] else [58, 32], 0)
def opS (k : Int) : Sep := fun i => match opOf k with | some x => if i = 0 then ([], x.2.2.2.1) else ([32] ++ x.1 ++ [32], x.2.2.2.2) | none => ([], 0)
/-- A part that opens nothing. -/
def wPlain (k n : Int) (nm : List UInt8) (K : Sep → St → St) (s : St) : St :=
  if k = 1 then s.lay (Go.Lib.itoa n)
  else if k = 2 then s.lay (Go.Lib.formatBool (n == 1))
  else if k = 3 then (s.lay [64]).lay (Go.Lib.itoa n)
  else if k = 4 ∨ k = 23 then s.lay nm
  else if k = 22 then s.lay [118, 101, 114, 116, 105, 99, 101, 115]
  else K (opS k) s
/-- Kids between two brackets. -/
def wList (x y : List UInt8) (K : Sep → St → St) (s : St) : St := ((K comS (s.ent.lay x)).lay y).lea
/-- A part where its own row is asked for. -/
def wNode (k n : Int) (nm : List UInt8) (K : Sep → St → St) (s : St) : St :=
  if k = 7 then (K (fun _ => ([110, 111, 116, 32], 3)) s.ent).lea
  else if k = 6 then (K (fun _ => ([45], 7)) s.ent).lea
  else if k = 19 then (K ifS s.ent).lea
  else if k = 21 then ((K (quS n nm) s.ent.qent).qlea).lea
  else if k = 20 then wList [40] [41] K (s.lay (cword n))
  else if k = 24 then wList [40] [41] K (s.lay [97, 114, 111, 117, 110, 100])
  else if k = 25 then wList [123] [125] K s
  else wPlain k n nm K s
def wE (k n : Int) (nm : List UInt8) (asked : Nat) (K : Sep → St → St) (s : St) : St :=
  if rowOf k < asked then ((wNode k n nm K (s.ent.lay [40])).lay [41]).lea else wNode k n nm K s
/-- Trees in a row. -/
def wFs : Fs → Sep → Nat → St → St
  | ⟨none⟩, _, _, s => s
  | ⟨some ⟨k, n, nm, a, ks, r⟩⟩, f, i, s => wFs r f (i + 1) (wE k n nm (f i).2 (fun g s => wFs ks g 0 s) (s.lay (f i).1))
def wEx (e : Ex) (asked : Nat) (s : St) : St := wE e.k e.n e.nm asked (fun g s => wFs e.kids g 0 s) s

/-- d parts are laid. -/
structure Gr (c d q : Nat) (s s' : St) : Prop where
  a : s'.a = s.a
  b : s'.b = s.b
  t : s'.t.length ≤ s.t.length + c
  m : s'.m ≤ max s.m (s.a + d)
  n : s'.n ≤ max s.n (s.b + q)
theorem Gr.refl (s : St) : Gr 0 0 0 s s := ⟨rfl, rfl, by omega, by omega, by omega⟩
theorem Gr.lay {c d q : Nat} {s s' : St} (h : Gr c d q s s') (x : List UInt8) {c' : Nat} (hc : c + x.length ≤ c') : Gr c' d q s (s'.lay x) :=
  ⟨h.a, h.b, by have := h.t; simp only [St.lay, List.length_append]; omega, h.m, h.n⟩
theorem Gr.trans {c d q c' d' q' : Nat} {s s' s'' : St} (h : Gr c d q s s') (k : Gr c' d' q' s' s'') : Gr (c + c') (max d d') (max q q') s s'' := by
  obtain ⟨h1, h2, h3, h4, h5⟩ := h
  obtain ⟨k1, k2, k3, k4, k5⟩ := k
  exact ⟨by omega, by omega, by omega, by omega, by omega⟩
theorem Gr.mono {c d q c' d' q' : Nat} {s s' : St} (h : Gr c d q s s') (h1 : c ≤ c') (h2 : d ≤ d') (h3 : q ≤ q') : Gr c' d' q' s s' := by
  obtain ⟨k1, k2, k3, k4, k5⟩ := h
  exact ⟨k1, k2, by omega, by omega, by omega⟩
theorem Gr.wrap {c d q : Nat} {s s' : St} (h : Gr c d q s.ent s') : Gr c (d + 1) q s s'.lea := by
  obtain ⟨k1, k2, k3, k4, k5⟩ := h
  simp only [St.ent] at k1 k2 k3 k4 k5
  exact ⟨by simp only [St.lea]; omega, k2, k3, by simp only [St.lea]; omega, k5⟩
theorem Gr.qwrap {c d q : Nat} {s s' : St} (h : Gr c d q s.qent s') : Gr c d (q + 1) s s'.qlea := by
  obtain ⟨k1, k2, k3, k4, k5⟩ := h
  simp only [St.qent] at k1 k2 k3 k4 k5
  exact ⟨k1, by simp only [St.qlea]; omega, k3, k4, by simp only [St.qlea]; omega⟩
/-- Names are short, numbers fit. -/
def Fs.neat : Fs → Prop
  | ⟨none⟩ => True
  | ⟨some ⟨_, n, nm, _, ks, r⟩⟩ => nm.length ≤ 12 ∧ -9223372036854775808 ≤ n ∧ n ≤ 9223372036854775807 ∧ ks.neat ∧ r.neat
theorem qword_len (n : Int) : (qword n).length ≤ 5 := by
  unfold qword
  split
  · rename_i x h
    have hm := List.mem_of_find?_eq_some h
    have : ∀ x ∈ quantsL, x.1.length ≤ 5 := by decide
    exact this x hm
  · simp
theorem cword_len (n : Int) : (cword n).length ≤ 10 := by
  unfold cword
  split
  · rename_i x h
    have hm := List.mem_of_find?_eq_some h
    have : ∀ x ∈ callsL, x.1.length ≤ 10 := by decide
    exact this x hm
  · simp
theorem opS_len (k : Int) (i : Nat) : (opS k i).1.length ≤ 22 := by
  unfold opS
  split
  · rename_i x h
    have hm := List.mem_of_find?_eq_some h
    have : ∀ x ∈ opsL, x.1.length ≤ 3 := by decide
    have := this x hm
    split <;> simp <;> omega
  · simp
theorem fbool_len (b : Bool) : (Go.Lib.formatBool b).length ≤ 5 := by
  cases b <;> decide
/-- What is laid for kids, where what stands ahead of each is short. -/
def KGr (N : Nat) (K : Sep → St → St) : Prop := ∀ (g : Sep) (s : St), (∀ i, (g i).1.length ≤ 22) → Gr (N * 100) (N * 2) N s (K g s)
theorem wPlain_gr {N : Nat} {K : Sep → St → St} (hK : KGr N K) (k n : Int) (nm : List UInt8) (h1 : nm.length ≤ 12) (h2 : -9223372036854775808 ≤ n) (h3 : n ≤ 9223372036854775807) (s : St) : Gr (N * 100 + 40) (N * 2) N s (wPlain k n nm K s) := by
  have hi := Go.Lib.itoa_length_le n h2 h3
  have hz : Gr (N * 100) (N * 2) N s s := (Gr.refl s).mono (by omega) (by omega) (by omega)
  unfold wPlain
  split
  · exact hz.lay _ (by omega)
  · split
    · have := fbool_len (n == 1)
      exact hz.lay _ (by omega)
    · split
      · exact (hz.lay [64] (c' := N * 100 + 1) (by simp)).lay _ (by omega)
      · split
        · exact hz.lay _ (by omega)
        · split
          · exact hz.lay _ (by simp)
          · exact (hK _ s (opS_len k)).mono (by omega) (by omega) (by omega)
theorem wList_gr {N : Nat} {K : Sep → St → St} (hK : KGr N K) (x y : List UInt8) (hx : x.length ≤ 1) (hy : y.length ≤ 1) (s : St) : Gr (N * 100 + 2) (N * 2 + 1) N s (wList x y K s) := by
  unfold wList
  refine Gr.wrap ?_
  have h1 : Gr 1 0 0 s.ent (s.ent.lay x) := (Gr.refl _).lay x (by omega)
  have h2 := h1.trans (hK comS (s.ent.lay x) (fun i => by unfold comS; split <;> simp))
  exact (h2.lay y (c' := N * 100 + 2) (by omega)).mono (by omega) (by omega) (by omega)
theorem wNode_gr {N : Nat} {K : Sep → St → St} (hK : KGr N K) (k n : Int) (nm : List UInt8) (h1 : nm.length ≤ 12) (h2 : -9223372036854775808 ≤ n) (h3 : n ≤ 9223372036854775807) (s : St) : Gr (N * 100 + 40) (N * 2 + 1) (N + 1) s (wNode k n nm K s) := by
  have l1 := qword_len n
  have l2 := cword_len n
  unfold wNode
  split
  · exact (Gr.wrap (hK _ s.ent (fun i => by simp))).mono (by omega) (by omega) (by omega)
  · split
    · exact (Gr.wrap (hK _ s.ent (fun i => by simp))).mono (by omega) (by omega) (by omega)
    · split
      · exact (Gr.wrap (hK _ s.ent (fun i => by unfold ifS; dsimp only; split <;> (try split) <;> simp))).mono (by omega) (by omega) (by omega)
      · split
        · exact (Gr.wrap (Gr.qwrap (hK _ s.ent.qent (fun i => by unfold quS; dsimp only; split <;> simp <;> omega)))).mono (by omega) (by omega) (by omega)
        · split
          · have h0 : Gr 10 0 0 s (s.lay (cword n)) := (Gr.refl s).lay _ (by omega)
            exact (h0.trans (wList_gr hK [40] [41] (by simp) (by simp) _)).mono (by omega) (by omega) (by omega)
          · split
            · have h0 : Gr 10 0 0 s (s.lay [97, 114, 111, 117, 110, 100]) := (Gr.refl s).lay _ (by simp)
              exact (h0.trans (wList_gr hK [40] [41] (by simp) (by simp) _)).mono (by omega) (by omega) (by omega)
            · split
              · exact (wList_gr hK [123] [125] (by simp) (by simp) _).mono (by omega) (by omega) (by omega)
              · exact (wPlain_gr hK k n nm h1 h2 h3 s).mono (by omega) (by omega) (by omega)
theorem wE_gr {N : Nat} {K : Sep → St → St} (hK : KGr N K) (k n : Int) (nm : List UInt8) (asked : Nat) (h1 : nm.length ≤ 12) (h2 : -9223372036854775808 ≤ n) (h3 : n ≤ 9223372036854775807) (s : St) : Gr (N * 100 + 42) (N * 2 + 2) (N + 1) s (wE k n nm asked K s) := by
  unfold wE
  split
  · refine Gr.wrap ?_
    have h0 : Gr 1 0 0 s.ent (s.ent.lay [40]) := (Gr.refl _).lay _ (by simp)
    exact ((h0.trans (wNode_gr hK k n nm h1 h2 h3 _)).lay [41] (c' := N * 100 + 42) (by simp only [List.length_cons, List.length_nil]; omega)).mono (by omega) (by omega) (by omega)
  · exact (wNode_gr hK k n nm h1 h2 h3 s).mono (by omega) (by omega) (by omega)
theorem wFs_gr : ∀ (f : Fs), f.neat → ∀ (g : Sep) (i : Nat) (s : St), (∀ i, (g i).1.length ≤ 22) → Gr (f.size * 100) (f.size * 2) f.size s (wFs f g i s)
  | ⟨none⟩, h, g, i, s, hg => Gr.refl s
  | ⟨some ⟨k, n, nm, a, ks, r⟩⟩, h, g, i, s, hg => by
    have hK : KGr ks.size (fun g s => wFs ks g 0 s) := fun g s hg => wFs_gr ks h.2.2.2.1 g 0 s hg
    have h0 : Gr 22 0 0 s (s.lay (g i).1) := (Gr.refl s).lay _ (by have := hg i; omega)
    have h1 := h0.trans (wE_gr hK k n nm (g i).2 h.1 h.2.1 h.2.2.1 (s.lay (g i).1))
    have h2 := h1.trans (wFs_gr r h.2.2.2.2 g (i + 1) _ hg)
    exact h2.mono (by simp only [Fs.size]; omega) (by simp only [Fs.size]; omega) (by simp only [Fs.size]; omega)
end Go.Proofs.YtojleoionpnjpaaGreatDoor
